package sha

import (
	"bytes"
	"crypto/sha256"
	"encoding/binary"
	"encoding/hex"
	"math"
	"slices"
	"strings"
	"testing"

	"bindle/api"
	"bindle/bits"
	"bindle/block"
)

// chain tells numbers of a fixed rule, one after the other.
type chain uint32

func (c *chain) word() uint32 {
	*c = *c*1664525 + 1013904223
	return uint32(*c) ^ uint32(*c)>>15
}

// data is n bytes of a fixed rule.
func data(n int) []byte {
	c := chain(n + 3)
	b := make([]byte, n)
	for i := range b {
		b[i] = byte(c.word() >> 9)
	}
	return b
}

// lengths is every length of several blocks, and the edges of longer ones.
func lengths() []int {
	var l []int
	for n := range 4*64 + 2 {
		l = append(l, n)
	}
	for _, n := range []int{512, 1024, 4096, api.MaxFile} {
		l = append(l, n-65, n-64, n-9, n-8, n-1, n, n+1)
	}
	return l
}

func TestP3_1PadExamples(t *testing.T) {
	for _, c := range []struct {
		n    int64
		want []byte
	}{
		{0, append([]byte{128}, make([]byte, 63)...)},
		{1, append(append([]byte{128}, make([]byte, 61)...), 8)},
		{54, []byte{128, 0, 0, 0, 0, 0, 0, 0, 1, 0xb0}},
		{55, []byte{128, 0, 0, 0, 0, 0, 0, 1, 0xb8}},
		{56, append(append([]byte{128}, make([]byte, 69)...), 1, 0xc0)},
		{63, append(append([]byte{128}, make([]byte, 62)...), 1, 0xf8)},
		{64, append(append([]byte{128}, make([]byte, 61)...), 2, 0)},
		{119, []byte{128, 0, 0, 0, 0, 0, 0, 3, 0xb8}},
		{1<<40 - 9, []byte{128, 0, 0, 7, 0xff, 0xff, 0xff, 0xff, 0xb8}},
		{1<<40 - 8, append(append([]byte{128}, make([]byte, 65)...), 7, 0xff, 0xff, 0xff, 0xff, 0xc0)},
		{1<<40 - 1, append(append([]byte{128}, make([]byte, 58)...), 7, 0xff, 0xff, 0xff, 0xff, 0xf8)},
		{1 << 40, append(append([]byte{128}, make([]byte, 57)...), 8, 0, 0, 0, 0, 0)},
	} {
		if got := Pad(c.n); !bytes.Equal(got, c.want) {
			t.Errorf("Pad(%d) = %x, not %x", c.n, got, c.want)
		}
	}
}

// padded tries one byte 0 after the other, till the blocks are whole.
func padded(n int64) []byte {
	p := []byte{0x80}
	for (n+int64(len(p))+8)%64 != 0 {
		p = append(p, 0)
	}
	return binary.BigEndian.AppendUint64(p, uint64(n)*8)
}

func TestP3_1Pad(t *testing.T) {
	var l []int64
	for n := range int64(1000) {
		l = append(l, n, 1<<40-n)
	}
	for i := range 40 {
		for d := int64(-1); d <= 1; d++ {
			l = append(l, 1<<i+d)
		}
	}
	for _, n := range l {
		if got, want := Pad(n), padded(n); !bytes.Equal(got, want) {
			t.Fatalf("Pad(%d) = %x, not %x", n, got, want)
		}
	}
}

func TestP3_1PadOfNoNumber(t *testing.T) {
	for _, n := range []int64{-1, -8, -9, -64, math.MinInt64, 1<<40 + 1, 1<<40 + 64, 1 << 41, 1 << 61, math.MaxInt64} {
		if got := Pad(n); len(got) != 0 {
			t.Errorf("Pad(%d) = %x, not nothing", n, got)
		}
	}
}

// TestP3_1PadIsTheCallersOwn holds the rule R3: what is told may be changed without harm.
func TestP3_1PadIsTheCallersOwn(t *testing.T) {
	p := Pad(100)
	for i := range p {
		p[i] = 0x55
	}
	if got := Pad(100); !bytes.Equal(got, padded(100)) {
		t.Errorf("Pad(100) = %x", got)
	}
}

func TestP3_2SumExamples(t *testing.T) {
	for _, c := range []struct{ s, want string }{
		{"", "e3b0c44298fc1c149afbf4c8996fb92427ae41e4649b934ca495991b7852b855"},
		{"abc", "ba7816bf8f01cfea414140de5dae2223b00361a396177a9cb410ff61f20015ad"},
		{"abcdbcdecdefdefgefghfghighijhijkijkljklmklmnlmnomnopnopq", "248d6a61d20638b8e5c026930c3e6039a33ce45964ff2167f6ecedd419db06c1"},
		{strings.Repeat("a", 1000000), "cdc76e5c9914fb9281a1c7e284d73e67f1809a48a497200e046d39ccc7112cd0"},
	} {
		if d := Sum([]byte(c.s)); hex.EncodeToString(d[:]) != c.want {
			t.Errorf("Sum of %d bytes: %x, not %s", len(c.s), d, c.want)
		}
	}
	if Sum(nil) != Sum([]byte{}) {
		t.Error("nil and empty have unlike digests")
	}
}

func TestP3_2Sum(t *testing.T) {
	for _, n := range lengths() {
		for _, b := range [][]byte{data(n), make([]byte, n), bytes.Repeat([]byte{0xff}, n)} {
			if got, want := Sum(b), api.Digest(sha256.Sum256(b)); got != want {
				t.Fatalf("Sum of %d bytes: %x, not %x", n, got, want)
			}
		}
	}
}

// TestP3_2SumIsCompressedBlocks holds Sum to block.Compress, bits.First and Pad.
func TestP3_2SumIsCompressedBlocks(t *testing.T) {
	for _, n := range lengths() {
		b := data(n)
		words := bits.First()
		for c := range slices.Chunk(append(slices.Clone(b), Pad(int64(n))...), 64) {
			words = block.Compress(words, [64]byte(c))
		}
		var want []byte
		for _, w := range words {
			want = binary.BigEndian.AppendUint32(want, w)
		}
		if got := Sum(b); got != api.Digest(want) {
			t.Fatalf("Sum of %d bytes: %x, not %x", n, got, want)
		}
	}
}

// TestP3_2NothingHandedInIsChanged holds the rule R3, for the bytes behind those handed in too.
func TestP3_2NothingHandedInIsChanged(t *testing.T) {
	for _, n := range lengths() {
		whole := data(n + 200)
		was := slices.Clone(whole)
		Sum(whole[:n])
		h := New()
		h.Write(whole[:n])
		h.Told()
		if !bytes.Equal(whole, was) {
			t.Fatalf("of %d bytes, some were changed", n)
		}
	}
}

func TestP3_3NewIsOfNothing(t *testing.T) {
	h := New()
	if h == nil || h.Len() != 0 || h.Told() != api.Digest(sha256.Sum256(nil)) {
		t.Fatal("a new one is not of nothing")
	}
	h.Write([]byte("abc"))
	if other := New(); other.Len() != 0 || other.Told() != api.Digest(sha256.Sum256(nil)) {
		t.Error("a new one knows what was written to another")
	}
}

func TestP3_3WriteBehindAll(t *testing.T) {
	h := New()
	var all []byte
	for n := range 300 {
		b := data(n)
		h.Write(b)
		all = append(all, b...)
		if got, want := h.Told(), api.Digest(sha256.Sum256(all)); got != want || h.Len() != int64(len(all)) {
			t.Fatalf("behind %d bytes: %x, not %x; Len is %d", len(all), got, want, h.Len())
		}
	}
}

func TestP3_3WriteOfNothing(t *testing.T) {
	for _, n := range []int{0, 1, 55, 56, 63, 64, 65, 128} {
		h := New()
		h.Write(data(n))
		h.Write(nil)
		h.Write([]byte{})
		if h.Len() != int64(n) || h.Told() != Sum(data(n)) {
			t.Errorf("nothing written behind %d bytes changes them", n)
		}
	}
}

// TestP3_3WrittenIsNotShared holds the rule R3: bytes may be changed once they are written.
func TestP3_3WrittenIsNotShared(t *testing.T) {
	for _, n := range []int{1, 32, 63, 64, 65, 100, 127, 128, 1000} {
		h := New()
		b := data(n)
		h.Write(b)
		for i := range b {
			b[i] ^= 0xff
		}
		if h.Told() != Sum(data(n)) {
			t.Errorf("%d bytes were changed behind Write", n)
		}
	}
}

func TestP3_3ToldChangesNothing(t *testing.T) {
	for _, n := range lengths() {
		h := New()
		h.Write(data(n))
		was := *h
		first, second := h.Told(), h.Told()
		first[0] ^= 0xff
		if *h != was || h.Told() != second || h.Len() != int64(n) {
			t.Fatalf("behind %d bytes, telling changes the digest", n)
		}
	}
}

func TestP3_3OneChangesNoOther(t *testing.T) {
	a, b := New(), New()
	for i := range 200 {
		a.Write([]byte{byte(i)})
		b.Write([]byte{byte(i), 7})
	}
	var wantA, wantB []byte
	for i := range 200 {
		wantA = append(wantA, byte(i))
		wantB = append(wantB, byte(i), 7)
	}
	if a.Told() != Sum(wantA) || a.Len() != 200 || b.Told() != Sum(wantB) || b.Len() != 400 {
		t.Error("one of two that are written in turn knows the other's bytes")
	}
}

func TestP3_3Nil(t *testing.T) {
	var h *Hash
	for _, n := range []int{0, 1, 64, 1000} {
		h.Write(data(n))
		if h != nil || h.Len() != 0 || h.Told() != (api.Digest{}) {
			t.Errorf("a nil one to which %d bytes are written is not of nothing", n)
		}
	}
}

// TestP3_4TwoPieces cuts several blocks at every place.
func TestP3_4TwoPieces(t *testing.T) {
	for _, n := range []int{1, 55, 56, 63, 64, 65, 119, 120, 127, 128, 129, 192, 200, 256} {
		b := data(n)
		want := api.Digest(sha256.Sum256(b))
		for cut := range n + 1 {
			h := New()
			h.Write(b[:cut])
			if h.Told() != Sum(b[:cut]) {
				t.Fatalf("the first %d of %d bytes have another digest", cut, n)
			}
			h.Write(b[cut:])
			if h.Told() != want {
				t.Fatalf("%d bytes cut at %d have another digest", n, cut)
			}
		}
	}
}

// TestP3_4AnyPieces cuts bytes in pieces of many lengths, 0 among them, and tells between some of them.
func TestP3_4AnyPieces(t *testing.T) {
	b := data(2000)
	var want []api.Digest
	for n := range len(b) + 1 {
		want = append(want, sha256.Sum256(b[:n]))
	}
	c := chain(1)
	for _, most := range []uint32{1, 2, 3, 63, 64, 65, 130, 1000, 3000} {
		for range 10 {
			h, told := New(), New()
			for at := 0; at < len(b); {
				n := min(len(b)-at, int(c.word()%(most+1)))
				h.Write(b[at : at+n])
				told.Write(b[at : at+n])
				at += n
				if c.word()>>8%2 == 0 && told.Told() != want[at] {
					t.Fatalf("pieces up to %d: another digest of %d bytes", most, at)
				}
			}
			if h.Told() != want[len(b)] || told.Told() != want[len(b)] || h.Len() != told.Len() || h.Len() != int64(len(b)) {
				t.Fatalf("pieces up to %d: another digest of all", most)
			}
		}
	}
}
