package block

import (
	"crypto/sha256"
	"encoding"
	"encoding/binary"
	"math"
	mathbits "math/bits"
	"testing"

	"bindle/bits"
)

// chain tells words of a fixed rule, one after the other.
type chain uint32

func (c *chain) word() uint32 {
	*c = *c*1664525 + 1013904223
	return uint32(*c) ^ uint32(*c)>>15
}

func (c *chain) words() [8]uint32 {
	var h [8]uint32
	for i := range h {
		h[i] = c.word()
	}
	return h
}

// all is eight words x.
func all(x uint32) [8]uint32 { return [8]uint32{x, x, x, x, x, x, x, x} }

// allWords is the edges of eight words, each word of 0 and 1 and of the greatest alone, and words of a fixed rule.
func allWords() [][8]uint32 {
	l := [][8]uint32{{}, all(1), all(math.MaxUint32), all(1 << 31), all(0xaaaaaaaa), bits.First(), {1, 2, 3, 4, 5, 6, 7, 8}}
	for i := range 8 {
		var one, great [8]uint32
		one[i], great[i] = 1, math.MaxUint32
		l = append(l, one, great)
	}
	c := chain(7)
	for range 50 {
		l = append(l, c.words())
	}
	return l
}

// blocks is the edges of blocks, each byte of 0xff alone, and blocks of a fixed rule.
func blocks() [][64]byte {
	var full, count [64]byte
	for i := range full {
		full[i], count[i] = 0xff, byte(i)
	}
	l := [][64]byte{{}, full, count, {0: 0x80}, {63: 1}, {'a', 'b', 'c', 0x80, 63: 24}}
	for i := range 64 {
		var one [64]byte
		one[i] = 0xff
		l = append(l, one)
	}
	c := chain(11)
	for range 50 {
		var b [64]byte
		for i := range b {
			b[i] = byte(c.word() >> 9)
		}
		l = append(l, b)
	}
	return l
}

func right(x uint32, n int) uint32 { return mathbits.RotateLeft32(x, -n) }

func TestP2_1ScheduleExamples(t *testing.T) {
	w := Schedule([64]byte{'a', 'b', 'c', 0x80, 63: 24})
	for i, want := range map[int]uint32{
		0: 0x61626380, 1: 0, 14: 0, 15: 0x18, 16: 0x61626380, 17: 0x000f0000, 18: 0x7da86405, 19: 0x600003c6,
		20: 0x3e9d7b78, 63: 0x12b1edeb,
	} {
		if w[i] != want {
			t.Errorf("the word %d is %#x, not %#x", i, w[i], want)
		}
	}
	if Schedule([64]byte{}) != [64]uint32{} {
		t.Error("the words of zeros aren't zeros")
	}
}

// TestP2_1ScheduleFirstWords has a byte of its own at each place of the block.
func TestP2_1ScheduleFirstWords(t *testing.T) {
	for _, b := range blocks() {
		w := Schedule(b)
		for i := range 16 {
			if want := binary.BigEndian.Uint32(b[4*i:]); w[i] != want {
				t.Fatalf("the word %d of %x is %#x, not %#x", i, b, w[i], want)
			}
		}
	}
}

func TestP2_1ScheduleFurtherWords(t *testing.T) {
	for _, b := range blocks() {
		w := Schedule(b)
		for i := 16; i < 64; i++ {
			x, y := w[i-2], w[i-15]
			small1 := right(x, 17) ^ right(x, 19) ^ x>>10
			small0 := right(y, 7) ^ right(y, 18) ^ y>>3
			want := uint64(small1) + uint64(w[i-7]) + uint64(small0) + uint64(w[i-16])
			if w[i] != uint32(want&math.MaxUint32) {
				t.Fatalf("the word %d of %x is %#x, not %#x", i, b, w[i], uint32(want))
			}
		}
	}
}

func TestP2_2RoundExamples(t *testing.T) {
	if h := Round([8]uint32{}, 1, 1); h != [8]uint32{2, 0, 0, 0, 2, 0, 0, 0} {
		t.Errorf("zeros, 1, 1: %x", h)
	}
	if h := Round([8]uint32{}, 0, 0); h != [8]uint32{} {
		t.Errorf("zeros, 0, 0: %x", h)
	}
	if h := Round([8]uint32{}, math.MaxUint32, 1); h != [8]uint32{} {
		t.Errorf("zeros, the greatest word, 1: %x", h)
	}
	// The first round of the message "abc".
	h := Round(bits.First(), 0x428a2f98, 0x61626380)
	if h != [8]uint32{0x5d6aebcd, 0x6a09e667, 0xbb67ae85, 0x3c6ef372, 0xfa2a4622, 0x510e527f, 0x9b05688c, 0x1f83d9ab} {
		t.Errorf("the first words, K(0), abc: %x", h)
	}
}

// rounded works a round out in wide sums, and by the bits of Ch and Maj one by one.
func rounded(h [8]uint32, k, w uint32) [8]uint32 {
	a, b, c, d, e, f, g, last := h[0], h[1], h[2], h[3], h[4], h[5], h[6], h[7]
	var ch, maj uint64
	for i := range 32 {
		picked := g >> i & 1
		if e>>i&1 == 1 {
			picked = f >> i & 1
		}
		ch |= uint64(picked) << i
		if a>>i&1+b>>i&1+c>>i&1 >= 2 {
			maj |= 1 << i
		}
	}
	t1 := uint64(last) + uint64(right(e, 6)^right(e, 11)^right(e, 25)) + ch + uint64(k) + uint64(w)
	t2 := uint64(right(a, 2)^right(a, 13)^right(a, 22)) + maj
	return [8]uint32{uint32(t1 + t2), a, b, c, uint32(uint64(d) + t1), e, f, g}
}

func TestP2_2Round(t *testing.T) {
	c := chain(3)
	for _, h := range allWords() {
		for _, kw := range [][2]uint32{{0, 0}, {1, 0}, {0, 1}, {math.MaxUint32, 1}, {math.MaxUint32, math.MaxUint32}, {c.word(), c.word()}} {
			if got, want := Round(h, kw[0], kw[1]), rounded(h, kw[0], kw[1]); got != want {
				t.Fatalf("Round(%x, %#x, %#x) = %x, not %x", h, kw[0], kw[1], got, want)
			}
		}
	}
}

func TestP2_2CompressExample(t *testing.T) {
	h := Compress(bits.First(), [64]byte{'a', 'b', 'c', 0x80, 63: 24})
	if h != [8]uint32{0xba7816bf, 0x8f01cfea, 0x414140de, 0x5dae2223, 0xb00361a3, 0x96177a9c, 0xb410ff61, 0xf20015ad} {
		t.Errorf("%x", h)
	}
}

// compressed has Go's own library compress the block, from the words h on.
func compressed(t *testing.T, h [8]uint32, b [64]byte) [8]uint32 {
	t.Helper()
	s := []byte("sha\x03")
	for _, x := range h {
		s = binary.BigEndian.AppendUint32(s, x)
	}
	s = append(s, make([]byte, 64+8)...)
	d := sha256.New()
	if err := d.(encoding.BinaryUnmarshaler).UnmarshalBinary(s); err != nil {
		t.Fatal(err)
	}
	d.Write(b[:])
	s, err := d.(encoding.BinaryMarshaler).MarshalBinary()
	if err != nil {
		t.Fatal(err)
	}
	for i := range h {
		h[i] = binary.BigEndian.Uint32(s[4+4*i:])
	}
	return h
}

func TestP2_2Compress(t *testing.T) {
	for _, h := range allWords() {
		for _, b := range blocks() {
			if got, want := Compress(h, b), compressed(t, h, b); got != want {
				t.Fatalf("Compress(%x, %x) = %x, not %x", h, b, got, want)
			}
		}
	}
}

// TestP2_2CompressIsRoundsAndFirstWords holds Compress to the other functions of the package and of bits.
func TestP2_2CompressIsRoundsAndFirstWords(t *testing.T) {
	for _, h := range allWords() {
		for _, b := range blocks()[:8] {
			w := Schedule(b)
			want := h
			for i := range 64 {
				want = Round(want, bits.K(i), w[i])
			}
			for i := range want {
				want[i] += h[i]
			}
			if got := Compress(h, b); got != want {
				t.Fatalf("Compress(%x, %x) = %x, not %x", h, b, got, want)
			}
		}
	}
}

// TestP2_2NothingHandedInIsChanged holds the rules R3 and R4: arguments stay, and a second call answers as the first.
func TestP2_2NothingHandedInIsChanged(t *testing.T) {
	for _, b := range blocks()[:8] {
		h, was := bits.First(), b
		w, r, c := Schedule(b), Round(h, 5, 6), Compress(h, b)
		if h != bits.First() || b != was {
			t.Fatalf("%x or %x was changed", h, b)
		}
		toldW, toldR, toldC := w, r, c
		w[0]++
		r[0]++
		c[0]++
		if Schedule(b) != toldW || Round(h, 5, 6) != toldR || Compress(h, b) != toldC {
			t.Fatalf("the second answers of %x are others", b)
		}
	}
}

// undone is the words before a round, from those behind it.
func undone(r [8]uint32, k, w uint32) [8]uint32 {
	a, b, c, e, f, g := r[1], r[2], r[3], r[5], r[6], r[7]
	t1 := r[0] - bits.Big0(a) - bits.Maj(a, b, c)
	return [8]uint32{a, b, c, r[4] - t1, e, f, g, t1 - bits.Big1(e) - bits.Ch(e, f, g) - k - w}
}

func TestP2_3RoundUndone(t *testing.T) {
	c := chain(5)
	for _, h := range allWords() {
		for _, kw := range [][2]uint32{{0, 0}, {1, 1}, {math.MaxUint32, math.MaxUint32}, {c.word(), c.word()}} {
			if got := undone(Round(h, kw[0], kw[1]), kw[0], kw[1]); got != h {
				t.Fatalf("Round(%x, %#x, %#x) is undone to %x", h, kw[0], kw[1], got)
			}
			if got := Round(undone(h, kw[0], kw[1]), kw[0], kw[1]); got != h {
				t.Fatalf("%x undone with %#x, %#x is rounded to %x", h, kw[0], kw[1], got)
			}
		}
	}
}

// TestP2_3UnlikeWords changes every bit of words, one by one, and one word of the round.
func TestP2_3UnlikeWords(t *testing.T) {
	for _, h := range allWords() {
		r := Round(h, 3, 4)
		for i := range 256 {
			other := h
			other[i/32] ^= 1 << (i % 32)
			if Round(other, 3, 4) == r {
				t.Fatalf("%x and %x make the same words", h, other)
			}
		}
		if Round(h, 4, 4) == r || Round(h, 3, 5) == r {
			t.Fatalf("unlike words of the round make of %x the same words", h)
		}
	}
}

// less takes h away from the words of a compressed block.
func less(r, h [8]uint32) [8]uint32 {
	for i := range r {
		r[i] -= h[i]
	}
	return r
}

func TestP2_3CompressLessHUndone(t *testing.T) {
	for _, b := range blocks() {
		w := Schedule(b)
		seen := map[[8]uint32][8]uint32{}
		for _, h := range allWords() {
			r := less(Compress(h, b), h)
			if other, ok := seen[r]; ok && other != h {
				t.Fatalf("%x compresses %x and %x to the same words", b, h, other)
			}
			seen[r] = h
			for i := 63; i >= 0; i-- {
				r = undone(r, bits.K(i), w[i])
			}
			if r != h {
				t.Fatalf("%x, compressed with %x less itself, is undone to %x", h, b, r)
			}
		}
	}
}
