package bits

import (
	"math"
	"math/big"
	"testing"
)

// samples is the edges of words, and words of a fixed rule between them.
func samples() []uint32 {
	l := []uint32{0, 1, 2, 3, 0x7fffffff, 0x80000000, 0x80000001, 0xfffffffe, 0xffffffff, 0xaaaaaaaa, 0x55555555}
	x := uint32(12345)
	for range 100 {
		x = x*1664525 + 1013904223
		l = append(l, x)
	}
	return l
}

func bit(x uint32, i int) uint32 { return x >> i & 1 }

// wrap is n modulo 32, from 0 on.
func wrap(n int) int { return (n%32 + 32) % 32 }

// turned lays each bit of x, one by one, n places to the right.
func turned(x uint32, n int) uint32 {
	var y uint32
	for i := range 32 {
		y |= bit(x, i) << wrap(i-wrap(n))
	}
	return y
}

// shifted lays each bit of x, one by one, n places to the right, if it stays a bit of the word.
func shifted(x uint32, n int) uint32 {
	var y uint32
	for i := n; i < 32; i++ {
		y |= bit(x, i) << (i - n)
	}
	return y
}

func TestP1_1RotExamples(t *testing.T) {
	for _, c := range []struct {
		x    uint32
		n    int
		want uint32
	}{
		{1, 1, 1 << 31},
		{1, -1, 2},
		{1 << 31, -1, 1},
		{0x12345678, 0, 0x12345678},
		{0x12345678, 4, 0x81234567},
		{0x12345678, -4, 0x23456781},
		{0x12345678, 32, 0x12345678},
		{0x12345678, -32, 0x12345678},
		{0x12345678, 36, 0x81234567},
		{0x12345678, -36, 0x23456781},
		{1, 31, 2},
		{1, math.MaxInt, 2},
		{1, math.MinInt, 1},
		{1, math.MinInt + 1, 1 << 31},
	} {
		if got := Rot(c.x, c.n); got != c.want {
			t.Errorf("Rot(%#x, %d) = %#x, not %#x", c.x, c.n, got, c.want)
		}
	}
}

func TestP1_1RotBitByBit(t *testing.T) {
	for _, x := range samples() {
		for n := -100; n <= 100; n++ {
			if got, want := Rot(x, n), turned(x, n); got != want {
				t.Fatalf("Rot(%#x, %d) = %#x, not %#x", x, n, got, want)
			}
		}
	}
}

// TestP1_1ChMajAllBits has all eight cases of three bits at every place of the word.
func TestP1_1ChMajAllBits(t *testing.T) {
	for i := range 32 {
		for c := range uint32(8) {
			x, y, z := c>>2&1, c>>1&1, c&1
			wantCh := z
			if x == 1 {
				wantCh = y
			}
			wantMaj := uint32(0)
			if x+y+z >= 2 {
				wantMaj = 1
			}
			if got := Ch(x<<i, y<<i, z<<i); got != wantCh<<i {
				t.Errorf("Ch of %03b at the bit %d: %#x", c, i, got)
			}
			if got := Maj(x<<i, y<<i, z<<i); got != wantMaj<<i {
				t.Errorf("Maj of %03b at the bit %d: %#x", c, i, got)
			}
		}
	}
}

func TestP1_1ChMajWords(t *testing.T) {
	l := samples()
	for i := range l {
		x, y, z := l[i], l[(i+1)%len(l)], l[(i+2)%len(l)]
		var wantCh, wantMaj uint32
		for k := range 32 {
			if bit(x, k) == 1 {
				wantCh |= bit(y, k) << k
			} else {
				wantCh |= bit(z, k) << k
			}
			if bit(x, k)+bit(y, k)+bit(z, k) >= 2 {
				wantMaj |= 1 << k
			}
		}
		if got := Ch(x, y, z); got != wantCh {
			t.Errorf("Ch(%#x, %#x, %#x) = %#x, not %#x", x, y, z, got, wantCh)
		}
		if got := Maj(x, y, z); got != wantMaj {
			t.Errorf("Maj(%#x, %#x, %#x) = %#x, not %#x", x, y, z, got, wantMaj)
		}
	}
}

func TestP1_2Sigmas(t *testing.T) {
	for _, x := range samples() {
		for _, c := range []struct {
			name      string
			got, want uint32
		}{
			{"Big0", Big0(x), turned(x, 2) ^ turned(x, 13) ^ turned(x, 22)},
			{"Big1", Big1(x), turned(x, 6) ^ turned(x, 11) ^ turned(x, 25)},
			{"Small0", Small0(x), turned(x, 7) ^ turned(x, 18) ^ shifted(x, 3)},
			{"Small1", Small1(x), turned(x, 17) ^ turned(x, 19) ^ shifted(x, 10)},
		} {
			if c.got != c.want {
				t.Errorf("%s(%#x) = %#x, not %#x", c.name, x, c.got, c.want)
			}
		}
	}
}

// TestP1_2Edges writes the sums of single bits out, among them such as a shift drops and a turn keeps.
func TestP1_2Edges(t *testing.T) {
	for _, c := range []struct {
		name      string
		got, want uint32
	}{
		{"Big0 of 0", Big0(0), 0},
		{"Big1 of 0", Big1(0), 0},
		{"Small0 of 0", Small0(0), 0},
		{"Small1 of 0", Small1(0), 0},
		{"Big0 of 1", Big0(1), 1<<30 | 1<<19 | 1<<10},
		{"Big1 of 1", Big1(1), 1<<26 | 1<<21 | 1<<7},
		{"Small0 of 1", Small0(1), 1<<25 | 1<<14},
		{"Small1 of 1", Small1(1), 1<<15 | 1<<13},
		{"Small0 of the bit 2", Small0(1 << 2), 1<<27 | 1<<16},
		{"Small0 of the bit 3", Small0(1 << 3), 1<<28 | 1<<17 | 1},
		{"Small1 of the bit 9", Small1(1 << 9), 1<<24 | 1<<22},
		{"Small1 of the bit 10", Small1(1 << 10), 1<<25 | 1<<23 | 1},
		{"Big0 of all", Big0(math.MaxUint32), math.MaxUint32},
		{"Big1 of all", Big1(math.MaxUint32), math.MaxUint32},
		{"Small0 of all", Small0(math.MaxUint32), 0x1fffffff},
		{"Small1 of all", Small1(math.MaxUint32), 0x003fffff},
	} {
		if c.got != c.want {
			t.Errorf("%s: %#x, not %#x", c.name, c.got, c.want)
		}
	}
}

// primes is the first n of them.
func primes(n int) []int64 {
	var l []int64
next:
	for c := int64(2); len(l) < n; c++ {
		for _, p := range l {
			if c%p == 0 {
				continue next
			}
		}
		l = append(l, c)
	}
	return l
}

// rootBits is the first 32 bits behind the point of p's k-th root, found bit by bit in whole numbers.
func rootBits(p int64, k int) uint32 {
	whole := new(big.Int).Lsh(big.NewInt(p), uint(32*k))
	root := new(big.Int)
	for i := 63; i >= 0; i-- {
		more := new(big.Int).SetBit(root, i, 1)
		if new(big.Int).Exp(more, big.NewInt(int64(k)), nil).Cmp(whole) <= 0 {
			root = more
		}
	}
	return uint32(root.Uint64())
}

func TestP1_3K(t *testing.T) {
	for i, p := range primes(64) {
		if got, want := K(i), rootBits(p, 3); got != want {
			t.Errorf("K(%d) = %#x, not %#x", i, got, want)
		}
	}
	if K(0) != 0x428a2f98 || K(63) != 0xc67178f2 {
		t.Errorf("K(0) = %#x, K(63) = %#x", K(0), K(63))
	}
}

func TestP1_3KOfNoRound(t *testing.T) {
	for _, i := range []int{-1, 64, 65, -64, 128, 256, 1 << 20, math.MinInt32, math.MaxInt32, math.MinInt, math.MaxInt} {
		if got := K(i); got != 0 {
			t.Errorf("K(%d) = %#x, not 0", i, got)
		}
	}
}

func TestP1_3First(t *testing.T) {
	for i, p := range primes(8) {
		if got, want := First()[i], rootBits(p, 2); got != want {
			t.Errorf("First()[%d] = %#x, not %#x", i, got, want)
		}
	}
	if First()[0] != 0x6a09e667 {
		t.Errorf("First()[0] = %#x", First()[0])
	}
}

// TestP1_3FirstIsTheCallersOwn holds the rule R3: what is told may be changed without harm.
func TestP1_3FirstIsTheCallersOwn(t *testing.T) {
	want := First()
	told := First()
	for i := range told {
		told[i] = 0
	}
	if First() != want {
		t.Errorf("First() = %#x, not %#x", First(), want)
	}
}

func TestP1_4SigmasOfSums(t *testing.T) {
	for name, sigma := range map[string]func(uint32) uint32{"Big0": Big0, "Big1": Big1, "Small0": Small0, "Small1": Small1} {
		for _, x := range samples() {
			for _, y := range samples() {
				if sigma(x^y) != sigma(x)^sigma(y) {
					t.Fatalf("%s of %#x and %#x added isn't theirs added", name, x, y)
				}
			}
		}
	}
}

func TestP1_4TurnedTwice(t *testing.T) {
	for _, x := range samples() {
		for m := -40; m <= 40; m++ {
			for n := -40; n <= 40; n++ {
				if Rot(Rot(x, m), n) != Rot(x, m+n) {
					t.Fatalf("%#x turned by %d, then by %d, isn't turned by both", x, m, n)
				}
			}
		}
		if Rot(Rot(x, math.MaxInt), math.MinInt) != Rot(x, -1) {
			t.Fatalf("%#x turned by the greatest number and the least one isn't turned by -1", x)
		}
	}
}
