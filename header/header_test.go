package header

import (
	"archive/tar"
	"bytes"
	"fmt"
	"math"
	"math/rand/v2"
	"slices"
	"strings"
	"testing"
	"time"

	"bindle/api"
	"bindle/path"
)

// as is n letters a.
func as(n int) string {
	return strings.Repeat("a", n)
}

// filled is s, and bytes 0 up to width.
func filled(s string, width int) string {
	return s + strings.Repeat("\x00", width-len(s))
}

// summed is b with its own sum laid as the chapter says.
func summed(b []byte) []byte {
	b = bytes.Clone(b)
	copy(b[148:156], "        ")
	sum := 0
	for _, c := range b {
		sum += int(c)
	}
	copy(b[148:], fmt.Sprintf("%06o\x00 ", sum))
	return b
}

// plain is the header of that prefix, name and size, told by the chapter's words.
func plain(prefix, name string, size int) []byte {
	return summed([]byte(strings.Join([]string{
		filled(name, 100),
		fmt.Sprintf("%07o\x00", 420),
		"0000000\x00", "0000000\x00",
		fmt.Sprintf("%011o\x00", size), "00000000000\x00",
		"        ",
		"0",
		filled("", 100),
		"ustar\x00", "00",
		filled("", 32), filled("", 32),
		"0000000\x00", "0000000\x00",
		filled(prefix, 155),
		filled("", 12),
	}, "")))
}

// plainGet is the path and the size of which b is the header, told by the chapter's words; false if there is none.
func plainGet(b []byte) (string, int, bool) {
	if len(b) != 512 {
		return "", 0, false
	}
	name := strings.TrimRight(string(b[:100]), "\x00")
	prefix := strings.TrimRight(string(b[345:500]), "\x00")
	file := strings.TrimLeft(prefix+"/", "/") + name
	size := 0
	for _, c := range b[124:135] {
		size = 8*size + int(c) - '0'
	}
	p, n, e := path.Split(file)
	if e != api.OK || p != prefix || n != name || size < 0 || size > 1<<22 {
		return "", 0, false
	}
	return file, size, bytes.Equal(b, plain(p, n, size))
}

// isHeader holds that b is the header of that path and size, there and back.
func isHeader(t *testing.T, b []byte, file string, size int) {
	t.Helper()
	if got, e := Put(file, size); e != api.OK || !bytes.Equal(got, b) {
		t.Fatalf("Put(%q, %d) = %q, %d, not %q", file, size, got, e, b)
	}
	if s, n, e := Get(b); s != file || n != size || e != api.OK {
		t.Fatalf("Get(%q) = %q, %d, %d, not %q, %d", b, s, n, e, file, size)
	}
}

// putFails holds that there is no such header, and why.
func putFails(t *testing.T, file string, size int, want api.Errno) {
	t.Helper()
	if b, e := Put(file, size); len(b) != 0 || e != want {
		t.Fatalf("Put(%q, %d) = %q, %d, not the error %d", file, size, b, e, want)
	}
}

// getFails holds that b is no header, and why.
func getFails(t *testing.T, b []byte, want api.Errno) {
	t.Helper()
	if s, n, e := Get(b); s != "" || n != 0 || e != want {
		t.Fatalf("Get(%q) = %q, %d, %d, not the error %d", b, s, n, e, want)
	}
}

// asPlain holds that b is a header, or none, as the chapter's words have it; it tells which.
func asPlain(t *testing.T, b []byte) bool {
	t.Helper()
	file, size, ok := plainGet(b)
	if ok {
		isHeader(t, b, file, size)
	} else {
		getFails(t, b, api.ErrForm)
	}
	return ok
}

// paths is paths of all kinds: short ones and copies', and those that are split, up to the longest.
func paths() []string {
	return []string{
		"a", "Z", "0", "-", "...", ".a", "a/b", "dir/file.txt", "a~3-17", "a/b.c~31-1099511627776", as(99), as(100), as(98) + "/b", strings.Repeat("a/", 49) + "bc",
		as(100) + "/b", as(99) + "/b", as(1) + "/" + as(100), as(100) + "/" + as(100), as(100) + "/b/c", as(100) + "/" + as(54) + "/" + as(98), as(54) + "/" + as(100) + "/" + as(98),
		strings.Repeat("a/", 77) + as(100), strings.Repeat("a/", 126) + "bc", strings.Repeat("a/", 60) + "~",
	}
}

// sizes is sizes that may be, up to the greatest.
func sizes() []int {
	l := []int{0, 1, 2, 3, 7, 8, 9, 63, 64, 511, 512, 513, 1000, 4095, 4096, 65535, 65536, 65537, 1<<21 - 1, 1 << 21, 1<<22 - 512, 1<<22 - 8, 1<<22 - 1, 1 << 22}
	for n := 10; n < 1<<22; n = n*3 + 1 {
		l = append(l, n)
	}
	return l
}

// wrongSizes is sizes that no header has.
func wrongSizes() []int {
	return []int{
		math.MinInt, math.MinInt + 1, -1 << 33, -1 << 32, -1 << 31, -1 << 22, -512, -8, -2, -1,
		1<<22 + 1, 1<<22 + 2, 1<<22 + 512, 1 << 23, 1<<31 - 1, 1 << 31, 1 << 32, 1<<32 + 3, 1<<33 - 1, 1 << 33, 1<<33 + 3, 1 << 36, 1 << 62, math.MaxInt - 1, math.MaxInt,
	}
}

// noPaths is texts that are no path.
func noPaths() []string {
	return []string{
		"", "/", ".", "..", "/a", "a/", "a//b", "a/..", "./a", "a b", "a\x00", "\x00", "a\x00b", "a\n", "\u00e9", "a\xff", "a\\b", "ustar:", "a*",
		as(101), as(101) + "/b", "b/" + as(101), as(100) + "/" + as(55) + "/" + as(97), as(100) + "/" + as(100) + "/" + as(52), strings.Repeat("a/", 127) + "b", strings.Repeat("a/", 78) + as(100), as(1 << 20),
	}
}

func TestP7_1Example(t *testing.T) {
	want := make([]byte, 512)
	for place, s := range map[int]string{0: "a", 100: "0000644", 108: "0000000", 116: "0000000", 124: "00000000003", 136: "00000000000", 148: "007341\x00 ", 156: "0", 257: "ustar\x0000", 329: "0000000", 337: "0000000"} {
		copy(want[place:], s)
	}
	isHeader(t, want, "a", 3)
	copy(want, "b")
	copy(want[345:], as(100))
	isHeader(t, summed(want), as(100)+"/b", 3)
}

func TestP7_1Put(t *testing.T) {
	for _, file := range paths() {
		prefix, name, e := path.Split(file)
		if e != api.OK {
			t.Fatalf("Split(%q): %d", file, e)
		}
		for _, size := range sizes() {
			isHeader(t, plain(prefix, name, size), file, size)
		}
	}
}

func TestP7_1AllSizes(t *testing.T) {
	for size := 0; size <= 1<<22; size += 1 + size/1000 {
		isHeader(t, plain("", "a.txt", size), "a.txt", size)
	}
}

// TestP7_1AllLengths has texts of all lengths with a byte / at each place: their headers, or Split's error.
func TestP7_1AllLengths(t *testing.T) {
	headers := 0
	for n := range 260 {
		for i := range n {
			b := []byte(as(n))
			b[i] = '/'
			b[(i+n/2)%n] = '/'
			file := string(b)
			prefix, name, e := path.Split(file)
			if e != api.OK {
				putFails(t, file, n, e)
				continue
			}
			headers++
			isHeader(t, plain(prefix, name, n), file, n)
		}
	}
	if headers < 5000 {
		t.Fatalf("only %d headers", headers)
	}
}

// TestP7_1PutErrors has paths and sizes that may not be: of both, the path's error is told.
func TestP7_1PutErrors(t *testing.T) {
	for _, file := range noPaths() {
		_, _, e := path.Split(file)
		if e == api.OK {
			t.Fatalf("%q is a path", file)
		}
		for _, size := range append(sizes(), wrongSizes()...) {
			putFails(t, file, size, e)
		}
	}
	for _, file := range paths() {
		for _, size := range wrongSizes() {
			putFails(t, file, size, api.ErrOver)
		}
	}
}

// TestP7_1Tar has the headers that the standard library lays for the same files: of paths that aren't split they are the same, and all are read by it.
func TestP7_1Tar(t *testing.T) {
	for _, file := range paths() {
		for _, size := range sizes() {
			h := &tar.Header{Typeflag: tar.TypeReg, Name: file, Size: int64(size), Mode: 0o644, ModTime: time.Unix(0, 0), Format: tar.FormatUSTAR}
			var laid bytes.Buffer
			if err := tar.NewWriter(&laid).WriteHeader(h); err != nil {
				t.Fatal(err)
			}
			b, e := Put(file, size)
			if e != api.OK || len(file) <= 100 && !bytes.Equal(b, laid.Bytes()) {
				t.Fatalf("Put(%q, %d) = %q, %d, not %q", file, size, b, e, laid.Bytes())
			}
			got, err := tar.NewReader(bytes.NewReader(b)).Next()
			if err != nil || got.Name != file || got.Size != int64(size) || got.Mode != 0o644 || got.Typeflag != tar.TypeReg || got.Uid != 0 || got.Gid != 0 || !got.ModTime.Equal(time.Unix(0, 0)) || got.Uname+got.Gname+got.Linkname != "" {
				t.Fatalf("the header of %q, %d is read as %v, %v", file, size, got, err)
			}
		}
	}
}

// TestP7_1Others has headers of the standard library's that tell more than a path and a size.
func TestP7_1Others(t *testing.T) {
	for _, change := range []func(h *tar.Header){
		func(h *tar.Header) { h.Mode = 0o755 }, func(h *tar.Header) { h.Mode = 0 }, func(h *tar.Header) { h.Uid = 1 }, func(h *tar.Header) { h.Gid = 1 }, func(h *tar.Header) { h.ModTime = time.Unix(1, 0) },
		func(h *tar.Header) { h.Uname = "a" }, func(h *tar.Header) { h.Gname = "a" }, func(h *tar.Header) { h.Devmajor = 1 }, func(h *tar.Header) { h.Devminor = 1 },
		func(h *tar.Header) { h.Typeflag, h.Linkname, h.Size = tar.TypeSymlink, "b", 0 }, func(h *tar.Header) { h.Typeflag, h.Linkname, h.Size = tar.TypeLink, "b", 0 },
		func(h *tar.Header) { h.Typeflag, h.Size = tar.TypeDir, 0 }, func(h *tar.Header) { h.Typeflag, h.Name, h.Size = tar.TypeDir, "a/", 0 }, func(h *tar.Header) { h.Typeflag, h.Size = tar.TypeFifo, 0 }, func(h *tar.Header) { h.Typeflag, h.Size = tar.TypeChar, 0 },
		func(h *tar.Header) { h.Name = "a b" }, func(h *tar.Header) { h.Name = "./a" }, func(h *tar.Header) { h.Name = "/a" }, func(h *tar.Header) { h.Size = 1<<22 + 1 }, func(h *tar.Header) { h.Size = 1<<33 - 1 },
		func(h *tar.Header) { h.Format = tar.FormatGNU }, func(h *tar.Header) { h.Format, h.Size = tar.FormatGNU, 1<<33 },
		func(h *tar.Header) { h.Name = as(100) + "/b/c" }, // split at its last byte /
	} {
		h := &tar.Header{Typeflag: tar.TypeReg, Name: "a", Size: 3, Mode: 0o644, ModTime: time.Unix(0, 0), Format: tar.FormatUSTAR}
		change(h)
		var laid bytes.Buffer
		if err := tar.NewWriter(&laid).WriteHeader(h); err != nil {
			t.Fatal(err)
		}
		getFails(t, laid.Bytes()[:512], api.ErrForm)
	}
}

// TestP7_1GetShort has all beginnings, of headers and of what is none.
func TestP7_1GetShort(t *testing.T) {
	getFails(t, nil, api.ErrShort)
	for _, b := range [][]byte{plain("", "a", 3), plain(as(100), "b", 1<<22), make([]byte, 512), bytes.Repeat([]byte{0xff}, 512), bytes.Repeat([]byte("0"), 512)} {
		for n := range 512 {
			getFails(t, b[:n], api.ErrShort)
			getFails(t, b[:n:n], api.ErrShort)
		}
	}
}

// TestP7_1GetLong has headers with more behind them.
func TestP7_1GetLong(t *testing.T) {
	for _, b := range [][]byte{plain("", "a", 3), plain("", "a", 0), plain(as(100), "b", 1<<22)} {
		for _, c := range []byte{0, ' ', '0', 'a', 0xff} {
			getFails(t, append(bytes.Clone(b), c), api.ErrForm)
		}
		for _, n := range []int{2, 3, 11, 12, 511, 512, 513, 1024, 1 << 20} {
			getFails(t, append(bytes.Clone(b), make([]byte, n)...), api.ErrForm)
		}
		getFails(t, append(bytes.Clone(b), b...), api.ErrForm)
		getFails(t, append(make([]byte, 1), b...), api.ErrForm)
	}
}

func TestP7_1GetOfOneByte(t *testing.T) {
	for c := range 256 {
		b := bytes.Repeat([]byte{byte(c)}, 512)
		getFails(t, b, api.ErrForm)
		getFails(t, summed(b), api.ErrForm)
	}
}

// TestP7_1AnyByteSummed has each byte at each place, with the sum that is then right: most often there is no header.
func TestP7_1AnyByteSummed(t *testing.T) {
	for _, b := range [][]byte{plain("", "dir/file.txt", 1<<21+7), plain(as(100), "bc", 3), plain("", as(50)+"/"+as(49), 1<<22)} {
		for i := range b {
			for c := range 256 {
				other := bytes.Clone(b)
				other[i] = byte(c)
				other = summed(other)
				in := func(begin, width int) bool { return begin <= i && i < begin+width }
				if asPlain(t, other) && !bytes.Equal(other, b) && !in(0, 100) && !in(124, 12) && !in(345, 155) {
					t.Fatalf("%d at the place %d", c, i)
				}
			}
		}
	}
}

// TestP7_1Sums has sums that are right, but laid otherwise, and such as are wrong.
func TestP7_1Sums(t *testing.T) {
	b := plain("", "a", 3)
	var sum int
	if _, err := fmt.Sscanf(string(b[148:154]), "%o", &sum); err != nil {
		t.Fatal(err)
	}
	for _, form := range []string{"%06o\x00\x00", "%06o  ", "%06o \x00", "%06o\x000", "%07o\x00", "%07o ", "%08o", "%6o\x00 ", "%-6o\x00 ", "%5o\x00  ", "%05o\x00 \x00", " %05o\x00 ", "%04o\x00 \x00\x00", "%06d\x00 ", "%06x\x00 ", "%o\x00\x00\x00\x00"} {
		other := bytes.Clone(b)
		copy(other[148:156], fmt.Sprintf(form, sum))
		getFails(t, other, api.ErrForm)
	}
	for wrong := range 3 * sum {
		other := bytes.Clone(b)
		copy(other[148:156], fmt.Sprintf("%06o\x00 ", wrong))
		if wrong == sum {
			isHeader(t, other, "a", 3)
		} else {
			getFails(t, other, api.ErrForm)
		}
	}
	unsummed := bytes.Clone(b)
	copy(unsummed[148:156], "        ")
	getFails(t, unsummed, api.ErrForm)
}

// TestP7_1Fields has fields that headers of other hands have, with the right sum.
func TestP7_1Fields(t *testing.T) {
	for place, fields := range map[int][]string{
		0:   {"\x00", "/a", "a/", ".", "..", "a//b", "a\x00b", "a\x00\x00b", "\x00a", " a", "a ", "a b", "a\n", "\xc3\xa9"},
		100: {"0000755\x00", "0000644 ", "000644 \x00", "    644\x00", "0100644\x00", "644\x00\x00\x00\x00\x00", "\x00\x00\x00\x00\x00\x00\x00\x00"},
		108: {"0000001\x00", "0001750\x00", "0000000 ", "000000 \x00", "      0\x00", "\x00\x00\x00\x00\x00\x00\x00\x00"},
		116: {"0000001\x00", "0001750\x00", "0000000 ", "000000 \x00", "      0\x00", "\x00\x00\x00\x00\x00\x00\x00\x00"},
		124: {"00000000003 ", "          3\x00", "000000000003", "3\x00\x00\x00\x00\x00\x00\x00\x00\x00\x00\x00", "3          \x00", "-0000000003\x00", "00020000001\x00", "00040000000\x00", "77777777777\x00", "40000000000\x00", "00000000008\x00", "0000000000a\x00", "0x000000003\x00", "00000000_03\x00", "\x80\x00\x00\x00\x00\x00\x00\x00\x00\x00\x00\x03", "\x00\x00\x00\x00\x00\x00\x00\x00\x00\x00\x00\x00", "\xff\xff\xff\xff\xff\xff\xff\xff\xff\xff\xff\xff"},
		136: {"00000000001\x00", "14000000000\x00", "00000000000 ", "          0\x00", "\x00\x00\x00\x00\x00\x00\x00\x00\x00\x00\x00\x00"},
		156: {"\x00", "1", "2", "3", "4", "5", "6", "7", "g", "x", "L", "K", "S", " "},
		157: {"b", "\x00b", "0"},
		256: {"b"},
		257: {"ustar  \x00", "ustar\x00\x00\x00", "ustar\x00 0", "ustar\x0001", "ustar\x0010", "USTAR\x0000", "ustar 00", "ustar000", "\x00\x00\x00\x00\x00\x00\x00\x00", "star\x00\x0000"},
		265: {"root", "\x00a"},
		296: {"a"},
		297: {"root", "\x00a"},
		328: {"a"},
		329: {"0000001\x00", "\x00\x00\x00\x00\x00\x00\x00\x00", "0000000 ", "      0\x00"},
		337: {"0000001\x00", "\x00\x00\x00\x00\x00\x00\x00\x00", "0000000 ", "      0\x00"},
		345: {"b", "b/", "/b", "/", ".", "..", "\x00b", "b\x00b", as(154), as(155)},
		500: {"a", "\x00a", "00000000000\x00", "tar\x00"},
		508: {"tar\x00"},
		511: {"a", "\x01", "\xff"},
	} {
		for _, field := range fields {
			b := plain("", "a", 3)
			if place == 0 {
				b[0] = 0
			}
			copy(b[place:], field)
			getFails(t, summed(b), api.ErrForm)
		}
	}
}

// TestP7_1Laid has all places at which a path can be laid apart: but one of them is its header's.
func TestP7_1Laid(t *testing.T) {
	for _, file := range paths() {
		headers := 0
		for i := range file {
			if file[i] == '/' && i <= 155 && len(file)-i-1 <= 100 && asPlain(t, plain(file[:i], file[i+1:], 9)) {
				headers++
			}
		}
		if len(file) <= 100 && asPlain(t, plain("", file, 9)) {
			headers++
		}
		if headers != 1 {
			t.Fatalf("%q has %d headers", file, headers)
		}
	}
}

func TestP7_2Blank(t *testing.T) {
	if !Blank(nil) {
		t.Error("nothing isn't blank")
	}
	for _, n := range []int{0, 1, 2, 3, 7, 8, 9, 15, 16, 511, 512, 513, 1023, 1024, 1025} {
		b := make([]byte, n)
		if !Blank(b) {
			t.Fatalf("%d bytes 0 aren't blank", n)
		}
		for i := range b {
			for _, c := range []byte{1, 2, '0', ' ', 0x7f, 0x80, 0xff} {
				b[i] = c
				if Blank(b) {
					t.Fatalf("%d at the place %d of %d is blank", c, i, n)
				}
			}
			b[i] = 0
		}
	}
	great := make([]byte, 1<<24)
	if !Blank(great) {
		t.Error("many bytes 0 aren't blank")
	}
	great[len(great)-1] = 1
	if Blank(great) || !Blank(great[:len(great)-1]) {
		t.Error("many bytes, the last one 1")
	}
	for c := range 256 {
		if Blank([]byte{byte(c)}) != (c == 0) {
			t.Errorf("a byte %d", c)
		}
	}
	if Blank(bytes.Repeat([]byte{0x80}, 512)) || Blank(bytes.Repeat([]byte{1}, 256)) || Blank(plain("", "a", 0)) {
		t.Error("bytes that go round to 0 are blank")
	}
}

func TestP7_2Round(t *testing.T) {
	for _, c := range [][2]int{
		{0, 0}, {1, 512}, {511, 512}, {512, 512}, {513, 1024}, {1024, 1024}, {1025, 1536}, {1<<22 - 1, 1 << 22}, {1 << 22, 1 << 22}, {1<<22 + 1, 1<<22 + 512},
		{1<<31 - 1, 1 << 31}, {1 << 31, 1 << 31}, {1<<32 + 1, 1<<32 + 512}, {1 << 62, 1 << 62}, {1<<62 - 1, 1 << 62}, {1<<62 - 511, 1 << 62}, {1<<62 - 512, 1<<62 - 512}, {1<<62 - 513, 1<<62 - 512},
		{-1, 0}, {-2, 0}, {-511, 0}, {-512, 0}, {-513, 0}, {-1024, 0}, {-1 << 31, 0}, {-1 << 32, 0}, {-1 << 62, 0}, {math.MinInt + 1, 0}, {math.MinInt, 0},
	} {
		if got := Round(c[0]); got != c[1] {
			t.Errorf("Round(%d) = %d, not %d", c[0], got, c[1])
		}
	}
	for size := range 5000 {
		want := 0
		for want < size {
			want += 512
		}
		if got := Round(size); got != want {
			t.Fatalf("Round(%d) = %d, not %d", size, got, want)
		}
		if got := Round(-size); got != 0 {
			t.Fatalf("Round(%d) = %d", -size, got)
		}
	}
	for i := range 62 {
		for d := -600; d <= 600; d++ {
			size := 1<<i + d
			if got := Round(size); size > 0 && (got%512 != 0 || got < size || got-512 >= size) || size <= 0 && got != 0 {
				t.Fatalf("Round(%d) = %d", size, got)
			}
		}
	}
}

// TestRoundEnds has sizes of which nothing is promised but that Round ends.
func TestRoundEnds(t *testing.T) {
	for d := range 1100 {
		Round(math.MaxInt - d)
		Round(1<<62 + 1 + d)
	}
}

// TestP7_3AnyByte has each other byte at each place of headers: none is one.
func TestP7_3AnyByte(t *testing.T) {
	for _, file := range []string{"a", "dir/file.txt", as(100) + "/b", strings.Repeat("a/", 77) + as(100)} {
		b, e := Put(file, 0o1234567)
		if e != api.OK {
			t.Fatal(e)
		}
		for i, was := range b {
			for c := range 256 {
				if byte(c) != was {
					b[i] = byte(c)
					getFails(t, b, api.ErrForm)
				}
			}
			b[i] = was
		}
		isHeader(t, b, file, 0o1234567)
	}
}

// TestP7_3Swapped has headers with two bytes in each other's places, most of which have the same sum.
func TestP7_3Swapped(t *testing.T) {
	b := plain("ab/"+as(96), "c/d.txt", 0o1234567)
	headers := 0
	for i := range b {
		for j := range i {
			if b[i] == b[j] {
				continue
			}
			b[i], b[j] = b[j], b[i]
			if asPlain(t, b) {
				headers++
			}
			b[i], b[j] = b[j], b[i]
		}
	}
	if headers < 10 {
		t.Fatalf("only %d headers", headers)
	}
}

// TestP7_3Unlike holds that no two files have one header.
func TestP7_3Unlike(t *testing.T) {
	seen := map[string]bool{}
	for _, file := range paths() {
		for _, size := range slices.Compact(slices.Sorted(slices.Values(sizes()))) {
			b, e := Put(file, size)
			if e != api.OK || seen[string(b)] {
				t.Fatalf("the header of %q, %d: %d", file, size, e)
			}
			seen[string(b)] = true
		}
	}
}

// TestP7_3Changed has headers changed at some places at once, with a right sum or not: all that are read are laid as they stood.
func TestP7_3Changed(t *testing.T) {
	chance := rand.New(rand.NewPCG(7, 3)) // the same numbers each time
	kinds := []byte("\x00\x00\x00/ab.~01237 \xff")
	places := []int{0, 1, 2, 98, 99, 124, 127, 128, 134, 135, 345, 346, 444, 445, 498, 499}
	all := paths()
	headers := 0
	for range 200000 {
		prefix, name, _ := path.Split(all[chance.IntN(len(all))])
		b := plain(prefix, name, chance.IntN(1<<22+1))
		for range 1 + chance.IntN(4) {
			b[places[chance.IntN(len(places))]] = kinds[chance.IntN(len(kinds))]
		}
		if chance.IntN(8) > 0 {
			b = summed(b)
		}
		if asPlain(t, b) {
			headers++
		}
	}
	if headers < 5000 {
		t.Fatalf("only %d headers", headers)
	}
}

// TestR3 holds that what is handed in stays as it is, and what is told is the caller's own.
func TestR3(t *testing.T) {
	first, _ := Put("a", 3)
	want := bytes.Clone(first)
	clear(first)
	_ = append(first[:100], 'b')
	if again, e := Put("a", 3); e != api.OK || !bytes.Equal(again, want) {
		t.Fatalf("told again: %q, %d", again, e)
	}
	given := append(bytes.Clone(want), 'x')
	file, size, e := Get(given[:512])
	if !bytes.Equal(given[:512], want) || given[512] != 'x' {
		t.Fatalf("Get changed what was handed in: %q", given)
	}
	clear(given)
	if file != "a" || size != 3 || e != api.OK {
		t.Fatalf("told %q, %d, %d", file, size, e)
	}
	bad := bytes.Repeat([]byte{'/'}, 512)
	Get(bad)
	Blank(bad)
	if !bytes.Equal(bad, bytes.Repeat([]byte{'/'}, 512)) {
		t.Fatal("what was handed in is changed")
	}
}
