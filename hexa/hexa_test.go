package hexa

import (
	"bytes"
	"cmp"
	"encoding/hex"
	"math"
	"math/big"
	"strings"
	"testing"

	"bindle/api"
)

// chain tells numbers of a fixed rule, one after the other.
type chain uint64

func (c *chain) word() uint64 {
	*c = *c*6364136223846793005 + 1442695040888963407
	return uint64(*c) ^ uint64(*c)>>33
}

// digests is the edges of digests, each byte's value at each place alone, and digests of a fixed rule.
func digests() []api.Digest {
	var full, count api.Digest
	for i := range full {
		full[i], count[i] = 0xff, byte(i)
	}
	l := []api.Digest{{}, full, count}
	for i := range full {
		for v := range 256 {
			var one api.Digest
			one[i] = byte(v)
			l = append(l, one)
		}
	}
	c := chain(5)
	for range 200 {
		var d api.Digest
		for i := range d {
			d[i] = byte(c.word() >> 20)
		}
		l = append(l, d)
	}
	return l
}

// numbers is the edges of numbers from 0 on: small ones, powers of 2 and of 10 with what stands beside them, and numbers of a fixed rule of all lengths.
func numbers() []int64 {
	var l []int64
	for n := range int64(1200) {
		l = append(l, n, math.MaxInt64-n)
	}
	for i := range 63 {
		l = append(l, 1<<i-1, 1<<i, 1<<i+1)
	}
	for n, i := int64(1), 0; i < 19; n, i = 10*n, i+1 {
		l = append(l, n-1, n, n+1)
		if n <= math.MaxInt64/10 {
			l = append(l, 9*n, 5*n)
		}
	}
	c := chain(9)
	for range 300 {
		n := int64(c.word() >> 1)
		l = append(l, n>>(c.word()%63))
	}
	return l
}

func noDigest(t *testing.T, s string) {
	t.Helper()
	if d, e := Parse(s); d != (api.Digest{}) || e != api.ErrForm {
		t.Fatalf("Parse(%q) = %x, %d", s, d, e)
	}
}

// noNumber holds that s is no number, whatever the bound.
func noNumber(t *testing.T, s string) {
	t.Helper()
	for _, most := range []int64{math.MaxInt64, math.MaxInt64 - 1, 100, 6, 1, 0, -1, math.MinInt64} {
		if n, e := Read(s, most); n != 0 || e != api.ErrForm {
			t.Fatalf("Read(%q, %d) = %d, %d", s, most, n, e)
		}
	}
}

func TestP4_1TextExamples(t *testing.T) {
	for _, c := range []struct {
		d    api.Digest
		want string
	}{
		{api.Digest{}, strings.Repeat("0", 64)},
		{api.Digest{255}, "ff" + strings.Repeat("0", 62)},
		{api.Digest{31: 1}, strings.Repeat("0", 63) + "1"},
		{api.Digest{0x10, 0x9a, 31: 0xf0}, "109a" + strings.Repeat("0", 58) + "f0"},
		{
			api.Digest{0x01, 0x23, 0x45, 0x67, 0x89, 0xab, 0xcd, 0xef, 0xfe, 0xdc, 0xba, 0x98, 0x76, 0x54, 0x32, 0x10},
			"0123456789abcdeffedcba9876543210" + strings.Repeat("0", 32),
		},
	} {
		if got := Text(c.d); got != c.want {
			t.Errorf("Text(%x) = %q, not %q", c.d, got, c.want)
		}
		if got, e := Parse(c.want); got != c.d || e != api.OK {
			t.Errorf("Parse(%q) = %x, %d", c.want, got, e)
		}
	}
}

func TestP4_1Text(t *testing.T) {
	for _, d := range digests() {
		if got, want := Text(d), hex.EncodeToString(d[:]); got != want {
			t.Fatalf("Text(%x) = %q, not %q", d, got, want)
		}
	}
}

func TestP4_1Parse(t *testing.T) {
	for _, d := range digests() {
		s := hex.EncodeToString(d[:])
		if got, e := Parse(s); got != d || e != api.OK {
			t.Fatalf("Parse(%q) = %x, %d", s, got, e)
		}
	}
}

// TestP4_1ParseAnyByte has each byte at each place: it is a figure in small letters, or the text is no digest's.
func TestP4_1ParseAnyByte(t *testing.T) {
	var d api.Digest
	for i := range d {
		d[i] = byte(7*i + 3)
	}
	for i := range 64 {
		for c := range 256 {
			b := []byte(hex.EncodeToString(d[:]))
			b[i] = byte(c)
			s := string(b)
			if !strings.Contains("0123456789abcdef", string(b[i:i+1])) {
				noDigest(t, s)
				continue
			}
			want, err := hex.DecodeString(s)
			if got, e := Parse(s); err != nil || got != api.Digest(want) || e != api.OK {
				t.Fatalf("Parse(%q) = %x, %d", s, got, e)
			}
		}
	}
}

func TestP4_1ParseAnyLength(t *testing.T) {
	for n := range 200 {
		if n != 64 {
			noDigest(t, strings.Repeat("0", n))
			noDigest(t, strings.Repeat("a", n))
		}
	}
	noDigest(t, strings.Repeat("0", 1<<20))
}

func TestP4_1ParseWrong(t *testing.T) {
	s := strings.Repeat("0a", 32)
	for _, x := range []string{
		"", " ", s[1:], s[2:], s[:63], s[:62], s + "0", s + "00", s + s, s + "\n", s + "\x00", " " + s, "0x" + s,
		" " + s[1:], s[:63] + " ", s[:63] + "\n", s[:63] + "\x00", "0x" + s[2:], "+" + s[1:], "-" + s[1:],
		strings.ToUpper(s), "A" + s[1:], s[:63] + "A", "g" + s[1:], s[:63] + "g", s[:62] + "\u00e9", "\uff10" + s[3:],
		strings.Repeat("\u0660", 32), strings.Repeat("\u0660", 64), strings.Repeat("\xff", 64), strings.Repeat(":", 64), strings.Repeat("`", 64),
	} {
		noDigest(t, x)
	}
}

func TestP4_2NumberExamples(t *testing.T) {
	for n, want := range map[int64]string{
		0: "0", 7: "7", 9: "9", 10: "10", -1: "-1", -12: "-12", 100: "100", -1000: "-1000", 1 << 40: "1099511627776",
		math.MaxInt64: "9223372036854775807", math.MinInt64: "-9223372036854775808", math.MinInt64 + 1: "-9223372036854775807",
	} {
		if got := Number(n); got != want {
			t.Errorf("Number(%d) = %q, not %q", n, got, want)
		}
	}
}

func TestP4_2Number(t *testing.T) {
	for _, n := range numbers() {
		for _, n := range []int64{n, -n, -n - 1} {
			if got, want := Number(n), big.NewInt(n).String(); got != want {
				t.Fatalf("Number(%d) = %q, not %q", n, got, want)
			}
		}
	}
}

func TestP4_2ReadExamples(t *testing.T) {
	for _, c := range []struct {
		s    string
		most int64
		n    int64
		e    api.Errno
	}{
		{"7", 6, 0, api.ErrOver},
		{"7", 7, 7, api.OK},
		{"07", 9, 0, api.ErrForm},
		{"07", 6, 0, api.ErrForm},
		{"0", 0, 0, api.OK},
		{"0", -1, 0, api.ErrOver},
		{"0", math.MinInt64, 0, api.ErrOver},
		{"1", 0, 0, api.ErrOver},
		{"-1", 5, 0, api.ErrForm},
		{"-1", -2, 0, api.ErrForm},
		{"9223372036854775807", math.MaxInt64, math.MaxInt64, api.OK},
		{"9223372036854775807", math.MaxInt64 - 1, 0, api.ErrOver},
		{"9223372036854775808", math.MaxInt64, 0, api.ErrForm},
		{"9223372036854775808", 6, 0, api.ErrForm},
	} {
		if n, e := Read(c.s, c.most); n != c.n || e != c.e {
			t.Errorf("Read(%q, %d) = %d, %d", c.s, c.most, n, e)
		}
	}
}

func TestP4_2Read(t *testing.T) {
	for _, want := range numbers() {
		s := big.NewInt(want).String()
		for _, most := range []int64{want - 1, want, want/2 + want%2, math.MaxInt64, math.MaxInt64 - 1, 100, 0, -1, math.MinInt64} {
			n, e := Read(s, most)
			if want > most && (n != 0 || e != api.ErrOver) || want <= most && (n != want || e != api.OK) {
				t.Fatalf("Read(%q, %d) = %d, %d", s, most, n, e)
			}
		}
	}
}

// TestP4_2ReadAnyByte has each byte at each place of numbers: it is a figure, none of them a zero ahead, or the text is no number's.
func TestP4_2ReadAnyByte(t *testing.T) {
	for _, s := range []string{"5", "31", "100", "1099511627776"} {
		for i := range len(s) {
			for c := range 256 {
				b := []byte(s)
				b[i] = byte(c)
				want, ok := new(big.Int).SetString(string(b), 10)
				if !ok || want.String() != string(b) || want.Sign() < 0 {
					noNumber(t, string(b))
					continue
				}
				if n, e := Read(string(b), math.MaxInt64); n != want.Int64() || e != api.OK {
					t.Fatalf("Read(%q) = %d, %d", b, n, e)
				}
			}
		}
	}
}

func TestP4_2ReadWrong(t *testing.T) {
	for _, s := range []string{
		"", " ", "-", "+", "--1", "-0", "+0", "-1", "+1", "00", "01", "007", "0 ", " 0", "1 ", " 1", "1\n", "1\x00", "\x001",
		"1_000", "_1", "1_", "0_1", "1,000", "1.0", "1.", ".1", "1e3", "0x1", "0x", "0b1", "0o7", "a", "1a", "a1", "f", "ff", "1f", "1:", "1/",
		"\u0661", "\uff11", "1\u0661", "\xff", "1\xff", "nan", "-12", "-9223372036854775808", "-9223372036854775807",
		"09223372036854775807", "0" + strings.Repeat("0", 100) + "1",
	} {
		noNumber(t, s)
	}
	for _, n := range numbers() {
		s := big.NewInt(n).String()
		for _, x := range []string{"0" + s, "-" + s, "+" + s, " " + s, s + " ", s + "-", "00" + s} {
			noNumber(t, x)
		}
	}
}

// TestP4_2ReadTooGreat has numbers just beyond the greatest one, and such as are small modulo a power of 2.
func TestP4_2ReadTooGreat(t *testing.T) {
	for i := uint(63); i <= 200; i++ {
		power := new(big.Int).Lsh(big.NewInt(1), i)
		for d := int64(0); d < 40; d++ {
			noNumber(t, new(big.Int).Add(power, big.NewInt(d)).String())
		}
	}
	for i := int64(19); i < 70; i++ {
		noNumber(t, new(big.Int).Exp(big.NewInt(10), big.NewInt(i), nil).String()+"0")
		noNumber(t, strings.Repeat("9", int(i)))
	}
	// Each of these is a number but for its last figure; wrapped round, some are greater than without it.
	for _, n := range append(numbers(), 1<<61, 1<<62, 3<<61) {
		for figure := range int64(10) {
			if beyond := Number(n) + Number(figure); n > (math.MaxInt64-figure)/10 {
				noNumber(t, beyond)
			}
		}
	}
	noNumber(t, strings.Repeat("1", 1<<20))
	noNumber(t, "1"+strings.Repeat("0", 1<<20))
}

func TestP4_3DigestsThereAndBack(t *testing.T) {
	for _, d := range digests() {
		s := Text(d)
		back, e := Parse(s)
		if back != d || e != api.OK {
			t.Fatalf("Parse(Text(%x)) = %x, %d", d, back, e)
		}
		if again := Text(back); again != s {
			t.Fatalf("the Text of Parse(%q) is %q", s, again)
		}
	}
}

func TestP4_3NumbersThereAndBack(t *testing.T) {
	for _, n := range numbers() {
		s := Number(n)
		for _, most := range []int64{n, math.MaxInt64} {
			back, e := Read(s, most)
			if back != n || e != api.OK {
				t.Fatalf("Read(Number(%d), %d) = %d, %d", n, most, back, e)
			}
			if again := Number(back); again != s {
				t.Fatalf("the Number of Read(%q) is %q", s, again)
			}
		}
		if n > 0 {
			noNumber(t, Number(-n))
		}
		noNumber(t, Number(-n-1))
	}
}

// TestP4_3TextsStandAsDigests holds each digest against others, those among them that differ in one byte alone, by 1 or by more.
func TestP4_3TextsStandAsDigests(t *testing.T) {
	ordered := func(a, b api.Digest) {
		t.Helper()
		if got, want := cmp.Compare(Text(a), Text(b)), bytes.Compare(a[:], b[:]); got != want {
			t.Fatalf("the texts of %x and %x stand as %d, not %d", a, b, got, want)
		}
	}
	l := digests()
	c := chain(13)
	for _, a := range l {
		for range 8 {
			ordered(a, l[c.word()>>8%uint64(len(l))])
		}
		for i := range a {
			b := a
			b[i]++
			ordered(a, b)
			b[i] += byte(c.word() >> 11)
			ordered(a, b)
		}
	}
	for x := range 256 {
		for y := range 256 {
			ordered(api.Digest{15: byte(x)}, api.Digest{15: byte(y)})
		}
	}
}
