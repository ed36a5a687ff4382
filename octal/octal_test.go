package octal

import (
	"bytes"
	"fmt"
	"math"
	"strings"
	"testing"

	"bindle/api"
)

// chain tells numbers of a fixed rule, one after the other.
type chain uint64

func (c *chain) word() uint64 {
	*c = *c*6364136223846793005 + 1442695040888963407
	return uint64(*c) ^ uint64(*c)>>33
}

// bytes tells n bytes of a fixed rule.
func (c *chain) bytes(n int) []byte {
	b := make([]byte, n)
	for i := range b {
		b[i] = byte(c.word() >> 20)
	}
	return b
}

// numbers is the edges of numbers from 0 on: small ones, powers of 2 with what stands beside them, and numbers of a fixed rule of all lengths.
func numbers() []int64 {
	var l []int64
	for n := range int64(1200) {
		l = append(l, n, math.MaxInt64-n)
	}
	for i := range 63 {
		l = append(l, 1<<i-1, 1<<i, 1<<i+1)
	}
	c := chain(5)
	for range 500 {
		n := int64(c.word() >> 1)
		l = append(l, n>>(c.word()%63))
	}
	return l
}

// wrongNumbers is widths that no field of a number has.
func wrongNumbers() []int {
	return []int{math.MinInt, math.MinInt + 1, -1 << 32, -64, -12, -2, -1, 0, 1, 13, 14, 16, 22, 23, 24, 64, 255, 256, 512, 1<<32 + 8, math.MaxInt - 1, math.MaxInt}
}

// wrongTexts is widths that no field of a text has.
func wrongTexts() []int {
	return []int{math.MinInt, math.MinInt + 1, -1 << 32, -256, -255, -100, -1, 0, 256, 257, 355, 512, 1<<32 + 100, math.MaxInt - 1, math.MaxInt}
}

// putFails holds that n is no field of that width, and why.
func putFails(t *testing.T, n int64, width int, want api.Errno) {
	t.Helper()
	if b, e := Put(n, width); len(b) != 0 || e != want {
		t.Fatalf("Put(%d, %d) = %q, %d, not the error %d", n, width, b, e, want)
	}
}

// noNumber holds that b is the Put of none.
func noNumber(t *testing.T, b []byte) {
	t.Helper()
	if n, e := Get(b); n != 0 || e != api.ErrForm {
		t.Fatalf("Get(%q) = %d, %d", b, n, e)
	}
}

// textFails holds that s is no field of that width, and why.
func textFails(t *testing.T, s string, width int, want api.Errno) {
	t.Helper()
	if b, e := Text(s, width); len(b) != 0 || e != want {
		t.Fatalf("Text(%q, %d) = %q, %d, not the error %d", s, width, b, e, want)
	}
}

// noName holds that b is no text's field.
func noName(t *testing.T, b []byte) {
	t.Helper()
	if s, e := Name(b); s != "" || e != api.ErrForm {
		t.Fatalf("Name(%q) = %q, %d", b, s, e)
	}
}

// named holds that b is read as want.
func named(t *testing.T, b []byte, want string) {
	t.Helper()
	if s, e := Name(b); s != want || e != api.OK {
		t.Fatalf("Name(%q) = %q, %d, not %q", b, s, e, want)
	}
}

func TestP5_1Examples(t *testing.T) {
	for _, c := range []struct {
		n     int64
		width int
		want  string
	}{
		{8, 4, "010\x00"}, {0, 2, "0\x00"}, {7, 2, "7\x00"}, {8, 3, "10\x00"}, {63, 3, "77\x00"}, {64, 4, "100\x00"},
		{420, 8, "0000644\x00"}, {3, 12, "00000000003\x00"}, {1<<21 - 1, 8, "7777777\x00"},
		{0o12345670123, 12, "12345670123\x00"}, {1<<33 - 1, 12, "77777777777\x00"}, {0, 12, "00000000000\x00"}, {1 << 32, 12, "40000000000\x00"},
	} {
		if b, e := Put(c.n, c.width); string(b) != c.want || e != api.OK {
			t.Errorf("Put(%d, %d) = %q, %d, not %q", c.n, c.width, b, e, c.want)
		}
		if n, e := Get([]byte(c.want)); n != c.n || e != api.OK {
			t.Errorf("Get(%q) = %d, %d, not %d", c.want, n, e, c.n)
		}
	}
}

// TestP5_1Put has each number in each width: its figures, or ErrOver if they are too many.
func TestP5_1Put(t *testing.T) {
	for _, n := range numbers() {
		for width := 2; width <= 12; width++ {
			want := fmt.Sprintf("%0*o\x00", width-1, n)
			if len(want) > width {
				putFails(t, n, width, api.ErrOver)
				continue
			}
			if b, e := Put(n, width); string(b) != want || e != api.OK {
				t.Fatalf("Put(%d, %d) = %q, %d, not %q", n, width, b, e, want)
			}
			if got, e := Get([]byte(want)); got != n || e != api.OK {
				t.Fatalf("Get(%q) = %d, %d, not %d", want, got, e, n)
			}
		}
	}
}

func TestP5_1PutEdges(t *testing.T) {
	for width := 2; width <= 12; width++ {
		beyond := int64(1) << (3 * (width - 1))
		if b, e := Put(beyond-1, width); string(b) != strings.Repeat("7", width-1)+"\x00" || e != api.OK {
			t.Errorf("Put(%d, %d) = %q, %d", beyond-1, width, b, e)
		}
		for _, n := range []int64{beyond, beyond + 1, 8 * beyond, 8*beyond + 7, 1 << 33, 1 << 40, 1 << 62, math.MaxInt64} {
			putFails(t, n, width, api.ErrOver)
		}
		for _, n := range []int64{-1, -2, -7, -8, -beyond + 1, -beyond, -beyond - 1, -1 << 33, -1 << 40, math.MinInt64 + 1, math.MinInt64} {
			putFails(t, n, width, api.ErrOver)
		}
	}
}

// TestP5_1PutWidth has widths that may not be: ErrArg, also where the number is one that ErrOver is said of.
func TestP5_1PutWidth(t *testing.T) {
	for _, width := range wrongNumbers() {
		for _, n := range []int64{0, 1, 7, 8, 1 << 33, -1, math.MaxInt64, math.MinInt64} {
			putFails(t, n, width, api.ErrArg)
		}
	}
}

// TestP5_1GetAnyByte has each byte at each place of a field of each width: a figure ahead of the last place, a byte 0 there, or there is no number.
func TestP5_1GetAnyByte(t *testing.T) {
	for width := 2; width <= 12; width++ {
		for _, figures := range []string{"00000000000", "12345670123", "77777777777", "01010101010"} {
			field := append([]byte(figures[:width-1]), 0)
			for i := range field {
				for c := range 256 {
					b := bytes.Clone(field)
					b[i] = byte(c)
					last := i == width-1
					if last && c != 0 || !last && (c < '0' || c > '7') {
						noNumber(t, b)
						continue
					}
					var want int64
					for _, f := range b[:width-1] {
						want = want*8 + int64(f) - '0'
					}
					if n, e := Get(b); n != want || e != api.OK {
						t.Fatalf("Get(%q) = %d, %d, not %d", b, n, e, want)
					}
				}
			}
		}
	}
}

func TestP5_1GetAnyLength(t *testing.T) {
	noNumber(t, nil)
	for n := range 600 {
		figures := strings.Repeat("0", n)
		noNumber(t, []byte(figures))
		if field := []byte(figures + "\x00"); len(field) < 2 || len(field) > 12 {
			noNumber(t, field)
		} else if got, e := Get(field); got != 0 || e != api.OK {
			t.Fatalf("Get(%q) = %d, %d", field, got, e)
		}
		noNumber(t, make([]byte, n))
	}
	noNumber(t, append(bytes.Repeat([]byte("7"), 1<<20), 0))
}

func TestP5_1GetWrong(t *testing.T) {
	for _, s := range []string{
		"", "\x00", "0", "7", "07", "000", "00000000000", "000000000000", "777777777777", "0000000000000",
		" ", " \x00", " 7\x00", "7 \x00", "7 ", "0000644 ", "000644 \x00", "  644\x00", "644\x00\x00", "0\x00\x00", "\x007\x00", "\x000", "\x00\x00",
		"8\x00", "9\x00", "08\x00", "/\x00", ":\x00", "a\x00", "-1\x00", "+1\x00", "-\x00", "0x1\x00", "0o7\x00", "1_0\x00", "1.\x00", "0\n\x00",
		"000000000000\x00", "000000000001\x00", "100000000000\x00", "777777777777\x00", "\x80\x00\x00\x00", "\xff\x00", "0\xff", "\u0661\x00", "\uff11\x00", "0000644\x000", "7\x007\x00",
	} {
		noNumber(t, []byte(s))
	}
}

func TestP5_2Examples(t *testing.T) {
	for _, c := range []struct {
		s     string
		width int
		want  string
		e     api.Errno
	}{
		{"ab", 3, "ab\x00", api.OK},
		{"ab", 2, "ab", api.OK},
		{"ab", 1, "", api.ErrOver},
		{"", 1, "\x00", api.OK},
		{"", 4, "\x00\x00\x00\x00", api.OK},
		{"ustar", 6, "ustar\x00", api.OK},
		{"00", 2, "00", api.OK},
		{" a ", 5, " a \x00\x00", api.OK},
		{"\u00e9\xff\x01", 5, "\u00e9\xff\x01\x00", api.OK},
		{"a\x00", 9, "", api.ErrForm},
		{"a", 0, "", api.ErrArg},
		{"a", 256, "", api.ErrArg},
	} {
		b, e := Text(c.s, c.width)
		if string(b) != c.want || e != c.e {
			t.Errorf("Text(%q, %d) = %q, %d", c.s, c.width, b, e)
		}
		if e == api.OK {
			named(t, b, c.s)
		}
	}
}

// TestP5_2Text has texts of each length in each width.
func TestP5_2Text(t *testing.T) {
	c := chain(7)
	for n := range 260 {
		s := string(bytes.ReplaceAll(c.bytes(n), []byte{0}, []byte{1}))
		for width := 1; width <= 255; width++ {
			if n > width {
				textFails(t, s, width, api.ErrOver)
				continue
			}
			want := s + strings.Repeat("\x00", width-n)
			if b, e := Text(s, width); string(b) != want || e != api.OK {
				t.Fatalf("Text(%q, %d) = %q, %d", s, width, b, e)
			}
		}
	}
}

func TestP5_2TextAnyByte(t *testing.T) {
	for i := range 5 {
		for v := range 256 {
			b := []byte("abcde")
			b[i] = byte(v)
			if v == 0 {
				textFails(t, string(b), 7, api.ErrForm)
				continue
			}
			if got, e := Text(string(b), 7); string(got) != string(b)+"\x00\x00" || e != api.OK {
				t.Fatalf("Text(%q, 7) = %q, %d", b, got, e)
			}
		}
	}
}

// TestP5_2TextErrors has texts of which several errors could be told: the first named is.
func TestP5_2TextErrors(t *testing.T) {
	long := strings.Repeat("a", 300)
	for _, width := range wrongTexts() {
		for _, s := range []string{"", "a", "\x00", "a\x00b", long, long + "\x00"} {
			textFails(t, s, width, api.ErrArg)
		}
	}
	for width := 1; width <= 255; width++ {
		full := long[:width]
		for _, s := range []string{"\x00", "a\x00", "\x00a", "a\x00b", "\x00" + full, full + "\x00", full[1:] + "\x00", long + "\x00", "\x00" + long, long + "\x00a"} {
			textFails(t, s, width, api.ErrForm)
		}
		for _, s := range []string{full + "a", full + " ", full + "aa", long} {
			textFails(t, s, width, api.ErrOver)
		}
	}
	textFails(t, strings.Repeat("a", 1<<20), 255, api.ErrOver)
	textFails(t, strings.Repeat("a", 1<<20)+"\x00", 255, api.ErrForm)
}

// plainName is what the field b is read as, told by the chapter's words: false where it is none.
func plainName(b []byte) (string, bool) {
	for i := range b {
		if b[i] != 0 {
			continue
		}
		for _, c := range b[i:] {
			if c != 0 {
				return "", false
			}
		}
		return string(b[:i]), true
	}
	return string(b), true
}

// TestP5_2Name has all fields of few bytes of a few kinds.
func TestP5_2Name(t *testing.T) {
	kinds := []byte{0, 1, ' ', 'a', 0xff}
	fields := [][]byte{nil}
	for from := 0; len(fields[from]) < 6; from++ {
		for _, k := range kinds {
			fields = append(fields, append(bytes.Clone(fields[from]), k))
		}
	}
	for _, b := range fields {
		if want, ok := plainName(b); ok {
			named(t, b, want)
		} else {
			noName(t, b)
		}
	}
}

func TestP5_2NameAnyByte(t *testing.T) {
	for n := 1; n <= 300; n++ {
		b := bytes.Repeat([]byte("n"), n)
		named(t, b, strings.Repeat("n", n))
		named(t, make([]byte, n), "")
		for i := range n {
			b[i] = 0
			if i == n-1 {
				named(t, b, strings.Repeat("n", n-1))
			} else {
				noName(t, b)
			}
			b[i] = 'n'
		}
	}
	for v := range 256 {
		named(t, []byte{byte(v), 0, 0}, strings.TrimRight(string([]byte{byte(v)}), "\x00"))
		if v != 0 {
			named(t, []byte{'a', byte(v), 0}, "a"+string([]byte{byte(v)}))
			noName(t, []byte{'a', 0, byte(v)})
			noName(t, []byte{0, 0, byte(v)})
			noName(t, []byte{'a', 0, byte(v), 0})
		}
	}
}

func TestP5_2NameWrong(t *testing.T) {
	named(t, nil, "")
	named(t, []byte{}, "")
	for _, s := range []string{"a\x00b", "\x00a", "\x00 ", "a\x00 ", "a\x00\x00b", "a\x00\n", "ab\x00c\x00", "\x00\x00\x00\x01", "a\x00\xff\x00\x00", "a\x00a"} {
		noName(t, []byte(s))
	}
	long := make([]byte, 1<<20)
	named(t, long, "")
	long[0] = 'x'
	named(t, long, "x")
	long[1<<20-1] = 'y'
	noName(t, long)
}

func TestP5_3Examples(t *testing.T) {
	ones := bytes.Repeat([]byte{1}, 512)
	for _, c := range []struct {
		b    []byte
		want int64
	}{
		{nil, 0}, {[]byte{}, 0}, {[]byte{255, 255}, 510}, {ones[:148], 148}, {ones[:149], 148 + 32}, {ones[:150], 148 + 64},
		{ones[:155], 148 + 7*32}, {ones[:156], 148 + 8*32}, {ones[:157], 148 + 8*32 + 1}, {ones, 504 + 8*32},
		{make([]byte, 512), 8 * 32}, {make([]byte, 148), 0}, {bytes.Repeat([]byte{255}, 512), 504*255 + 8*32},
	} {
		if got := Check(c.b); got != c.want {
			t.Errorf("Check of %d bytes = %d, not %d", len(c.b), got, c.want)
		}
	}
}

// TestP5_3AnyPlace has one byte at each place among bytes 0: it counts, but at the places of the sum itself.
func TestP5_3AnyPlace(t *testing.T) {
	for i := range 700 {
		for _, v := range []byte{1, 31, 32, 33, 127, 128, 255} {
			b := make([]byte, 700)
			b[i] = v
			want := int64(8*32) + int64(v)
			if i >= 148 && i <= 155 {
				want = 8 * 32
			}
			if got := Check(b); got != want {
				t.Fatalf("Check of %d at the place %d = %d, not %d", v, i, got, want)
			}
		}
	}
}

func TestP5_3AnyLength(t *testing.T) {
	c := chain(11)
	b := c.bytes(1100)
	var want int64
	for n := range b {
		if got := Check(b[:n]); got != want {
			t.Fatalf("Check of %d bytes = %d, not %d", n, got, want)
		}
		if n >= 148 && n <= 155 {
			want += 32
		} else {
			want += int64(b[n])
		}
	}
	// So many bytes that a sum of 32 bits would wrap round.
	great := bytes.Repeat([]byte{255}, 1<<24+1<<20)
	if got, want := Check(great), int64(len(great)-8)*255+8*32; got != want {
		t.Fatalf("Check of %d bytes 255 = %d, not %d", len(great), got, want)
	}
}

// TestP5_4NumbersPut has all numbers of short fields.
func TestP5_4NumbersPut(t *testing.T) {
	for width := 2; width <= 6; width++ {
		for n := range int64(1) << (3 * (width - 1)) {
			b, e := Put(n, width)
			if len(b) != width || e != api.OK {
				t.Fatalf("Put(%d, %d) = %q, %d", n, width, b, e)
			}
			if got, e := Get(b); got != n || e != api.OK {
				t.Fatalf("Get(Put(%d, %d)) = %d, %d", n, width, got, e)
			}
		}
	}
}

// TestP5_4NumbersGot has all fields of two bytes, all of three of a few kinds more, and fields of a fixed rule: those that are got are put as they stood.
func TestP5_4NumbersGot(t *testing.T) {
	count := 0
	again := func(b []byte) {
		t.Helper()
		n, e := Get(b)
		if e != api.OK {
			noNumber(t, b)
			return
		}
		count++
		if back, e := Put(n, len(b)); !bytes.Equal(back, b) || e != api.OK {
			t.Fatalf("Put(Get(%q)) = %q, %d", b, back, e)
		}
	}
	for x := range 256 {
		for y := range 256 {
			again([]byte{byte(x), byte(y)})
			for _, z := range []byte{0, ' ', '0', '7', '8'} {
				again([]byte{byte(x), byte(y), z})
			}
		}
	}
	if count != 8+64 {
		t.Fatalf("%d fields are got, not %d", count, 8+64)
	}
	const kinds = "01234567890123456789 \x00"
	c := chain(17)
	for range 200000 {
		b := make([]byte, 1+c.word()>>9%13)
		for i := range b {
			b[i] = kinds[c.word()>>9%uint64(len(kinds))]
		}
		if c.word()>>9%8 > 0 {
			b[len(b)-1] = 0
		}
		again(b)
	}
	if count < 72+10000 {
		t.Fatalf("only %d fields are got", count)
	}
}

// TestP5_4Texts has texts and fields of all lengths, some with bytes 0 at any place.
func TestP5_4Texts(t *testing.T) {
	c := chain(19)
	for range 20000 {
		b := c.bytes(int(1 + c.word()>>9%255))
		if from := int(c.word() >> 9 % 300); from < len(b) {
			clear(b[from:])
		}
		s, e := Name(b)
		if want, ok := plainName(b); s != want || ok != (e == api.OK) {
			t.Fatalf("Name(%q) = %q, %d", b, s, e)
		}
		if e != api.OK {
			continue
		}
		for _, width := range []int{len(b), 255} {
			back, e := Text(s, width)
			if e != api.OK || width == len(b) && !bytes.Equal(back, b) {
				t.Fatalf("Text(Name(%q), %d) = %q, %d", b, width, back, e)
			}
			named(t, back, s)
		}
	}
}

// TestR3 holds that what is handed in stays as it is, and that what is told is the caller's own.
func TestR3(t *testing.T) {
	for _, s := range []string{"0000644\x00", "0000648\x00", "ab\x00\x00", "a\x00b", strings.Repeat("\x07", 512)} {
		b := []byte(s)
		Get(b)
		name, _ := Name(b)
		kept := strings.Clone(name)
		Check(b)
		if string(b) != s {
			t.Fatalf("%q became %q", s, b)
		}
		clear(b)
		if name != kept {
			t.Fatalf("the name %q became %q", kept, name)
		}
	}
	for _, lay := range []func() ([]byte, api.Errno){
		func() ([]byte, api.Errno) { return Put(420, 8) },
		func() ([]byte, api.Errno) { return Text("ab", 8) },
		func() ([]byte, api.Errno) { return Text("", 8) },
	} {
		first, _ := lay()
		want := string(first)
		for i := range first {
			first[i] = '#'
		}
		if second, e := lay(); string(second) != want || e != api.OK {
			t.Fatalf("laid again: %q, %d, not %q", second, e, want)
		}
	}
}
