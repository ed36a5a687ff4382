// Package bits holds the functions and constants of 32-bit words on which SHA-256 stands.
package bits

// cubeRoots is the constant table that K looks a place up in.
var cubeRoots = [64]uint32{
	0x428a2f98, 0x71374491, 0xb5c0fbcf, 0xe9b5dba5, 0x3956c25b, 0x59f111f1, 0x923f82a4, 0xab1c5ed5,
	0xd807aa98, 0x12835b01, 0x243185be, 0x550c7dc3, 0x72be5d74, 0x80deb1fe, 0x9bdc06a7, 0xc19bf174,
	0xe49b69c1, 0xefbe4786, 0x0fc19dc6, 0x240ca1cc, 0x2de92c6f, 0x4a7484aa, 0x5cb0a9dc, 0x76f988da,
	0x983e5152, 0xa831c66d, 0xb00327c8, 0xbf597fc7, 0xc6e00bf3, 0xd5a79147, 0x06ca6351, 0x14292967,
	0x27b70a85, 0x2e1b2138, 0x4d2c6dfc, 0x53380d13, 0x650a7354, 0x766a0abb, 0x81c2c92e, 0x92722c85,
	0xa2bfe8a1, 0xa81a664b, 0xc24b8b70, 0xc76c51a3, 0xd192e819, 0xd6990624, 0xf40e3585, 0x106aa070,
	0x19a4c116, 0x1e376c08, 0x2748774c, 0x34b0bcb5, 0x391c0cb3, 0x4ed8aa4a, 0x5b9cca4f, 0x682e6ff3,
	0x748f82ee, 0x78a5636f, 0x84c87814, 0x8cc70208, 0x90befffa, 0xa4506ceb, 0xbef9a3f7, 0xc67178f2,
}

// Rot turns the bits of x to the right by n places; below 0, to the left.
func Rot(x uint32, n int) uint32 {
	// The low five bits are n modulo 32 for negative numbers too.
	right := uint(n) & 31
	return x>>right | x<<(32-right)
}

// Ch picks each bit from y where x has a 1, and from z where it has a 0.
func Ch(x, y, z uint32) uint32 {
	return x&y ^ ^x&z
}

// Maj is, bit by bit, what at least two of the three words have.
func Maj(x, y, z uint32) uint32 {
	return x&y ^ x&z ^ y&z
}

// Big0 is the sum of three turns that a round takes of its first word.
func Big0(x uint32) uint32 {
	return Rot(x, 2) ^ Rot(x, 13) ^ Rot(x, 22)
}

// Big1 is the sum of three turns that a round takes of its fifth word.
func Big1(x uint32) uint32 {
	return Rot(x, 6) ^ Rot(x, 11) ^ Rot(x, 25)
}

// Small0 is the sum that the schedule takes of the word 15 places back.
func Small0(x uint32) uint32 {
	return Rot(x, 7) ^ Rot(x, 18) ^ x>>3
}

// Small1 is the sum that the schedule takes of the word two places back.
func Small1(x uint32) uint32 {
	return Rot(x, 17) ^ Rot(x, 19) ^ x>>10
}

// K is the constant of the round i: 32 bits of the cube root of the i-th prime; 0 if there is no such round.
func K(i int) uint32 {
	if i < 0 || i >= len(cubeRoots) {
		return 0
	}
	return cubeRoots[i]
}

// First is the words that a digest begins with: 32 bits each of the square roots of the first eight primes.
func First() [8]uint32 {
	return [8]uint32{
		0x6a09e667, 0xbb67ae85, 0x3c6ef372, 0xa54ff53a,
		0x510e527f, 0x9b05688c, 0x1f83d9ab, 0x5be0cd19,
	}
}
