package ustar

import (
	"archive/tar"
	"bytes"
	"io"
	"math"
	"math/rand/v2"
	"slices"
	"strconv"
	"strings"
	"testing"
	"time"

	"bindle/api"
	"bindle/header"
)

// file is a file at path that has size bytes, none of which is 0.
func file(path string, size int) api.File {
	data := make([]byte, size)
	for i := range data {
		data[i] = byte(1 + (i+size)%255)
	}
	return api.File{Path: path, Data: data}
}

// numbered is n files of size bytes, each at a path of its own.
func numbered(n, size int) []api.File {
	data := file("", size).Data
	l := make([]api.File, n)
	for i := range l {
		l[i] = api.File{Path: "f" + strconv.Itoa(i), Data: data}
	}
	return l
}

// plain is the archive of l, told by the chapter's words; headers are layer 7's.
func plain(t *testing.T, l []api.File) []byte {
	t.Helper()
	var b []byte
	for _, f := range l {
		head, e := header.Put(f.Path, len(f.Data))
		if e != api.OK {
			t.Fatalf("header.Put(%q, %d): %d", f.Path, len(f.Data), e)
		}
		b = append(b, head...)
		b = append(b, f.Data...)
		for len(b)%512 != 0 {
			b = append(b, 0)
		}
	}
	return append(b, make([]byte, 1024)...)
}

// plainWrong is why l has no archive, told by the chapter's words; api.OK if it has one.
func plainWrong(l []api.File) api.Errno {
	total := 0
	for _, f := range l {
		total += len(f.Data)
	}
	if len(l) > 400 || total > 1<<22 {
		return api.ErrFull
	}
	for _, f := range l {
		if _, e := header.Put(f.Path, len(f.Data)); e != api.OK {
			return e
		}
	}
	for i := range l {
		for j := range i {
			if l[i].Path == l[j].Path {
				return api.ErrThere
			}
		}
	}
	return api.OK
}

// plainGet is the files of which b is the archive, among those that the standard library finds in it; false if there are none.
func plainGet(t *testing.T, b []byte) ([]api.File, bool) {
	t.Helper()
	var l []api.File
	r := tar.NewReader(bytes.NewReader(b))
	for {
		h, err := r.Next()
		if err == io.EOF {
			return l, plainWrong(l) == api.OK && bytes.Equal(plain(t, l), b)
		}
		if err != nil {
			return nil, false
		}
		data, err := io.ReadAll(r)
		if err != nil {
			return nil, false
		}
		l = append(l, api.File{Path: h.Name, Data: data})
	}
}

// same tells whether the files of l and m are the same.
func same(l, m []api.File) bool {
	return slices.EqualFunc(l, m, func(x, y api.File) bool { return x.Path == y.Path && bytes.Equal(x.Data, y.Data) })
}

// told is the paths and the sizes of l, short enough to be read.
func told(l []api.File) string {
	var b strings.Builder
	for i, f := range l {
		if i == 8 {
			b.WriteString(" ..")
			break
		}
		b.WriteString(" " + strconv.Quote(f.Path) + ":" + strconv.Itoa(len(f.Data)))
	}
	return strconv.Itoa(len(l)) + " files" + b.String()
}

// isArchive holds that b is the archive of l, there and back.
func isArchive(t *testing.T, b []byte, l []api.File) {
	t.Helper()
	if got, e := Put(l); e != api.OK || !bytes.Equal(got, b) {
		t.Fatalf("Put(%s) = %d bytes, %d, not the %d bytes asked for", told(l), len(got), e, len(b))
	}
	if got, e := Get(b); e != api.OK || !same(got, l) {
		t.Fatalf("Get(%d bytes) = %s, %d, not %s", len(b), told(got), e, told(l))
	}
}

// putFails holds that l has no archive, and why.
func putFails(t *testing.T, l []api.File, want api.Errno) {
	t.Helper()
	if b, e := Put(l); len(b) != 0 || e != want {
		t.Fatalf("Put(%s) = %d bytes, %d, not the error %d", told(l), len(b), e, want)
	}
}

// getFails holds that b is no archive.
func getFails(t *testing.T, b []byte) {
	t.Helper()
	if l, e := Get(b); len(l) != 0 || e != api.ErrForm {
		t.Fatalf("Get(%d bytes) = %s, %d, not the error %d", len(b), told(l), e, api.ErrForm)
	}
}

// asPlain holds that b is an archive, or none, as the chapter's words have it; it tells which.
func asPlain(t *testing.T, b []byte) bool {
	t.Helper()
	l, ok := plainGet(t, b)
	if ok {
		isArchive(t, b, l)
	} else {
		getFails(t, b)
	}
	return ok
}

// lists is files of all kinds: none and one, of sizes about whole blocks, of bytes 0, in no order, with long paths, and archives in archives.
func lists(t *testing.T) map[string][]api.File {
	long := strings.Repeat("a", 100)
	inner := plain(t, []api.File{file("x", 3), file("y", 512)})
	m := map[string][]api.File{
		"none":     {},
		"mixed":    {file("b", 3), file("a/c", 0), file("a/d", 512), {Path: "e", Data: make([]byte, 600)}},
		"falling":  {file("c", 1), file("b", 2), file("a", 3)},
		"empty":    {file("a", 0), file("b", 0), file("c", 0)},
		"alike":    {file("a", 700), {Path: "b", Data: file("", 700).Data}, file("A", 700)},
		"within":   {file("a", 1), file("a/a", 1), file("a/a/a", 1)},
		"long":     {file(long, 5), file(long+"/b", 513), file(long+"/"+long, 0), file("b/"+long, 511)},
		"copies":   {file("a", 1), file("a~0-1", 1), file("a~3-17", 2)},
		"zeros":    {{Path: "a", Data: make([]byte, 1024)}, {Path: "b", Data: make([]byte, 1)}, {Path: "c", Data: make([]byte, 2048)}},
		"archives": {{Path: "a", Data: inner}, {Path: "b", Data: plain(t, nil)}, {Path: "c", Data: inner[:512]}},
	}
	for _, size := range []int{0, 1, 2, 3, 255, 510, 511, 512, 513, 514, 1023, 1024, 1025, 1535, 1536, 65535, 65536, 65537} {
		m["one of "+strconv.Itoa(size)] = []api.File{file("a", size)}
		m["two of "+strconv.Itoa(size)] = []api.File{file("a", size), file("b", size)}
	}
	return m
}

func TestP8_1Example(t *testing.T) {
	isArchive(t, make([]byte, 1024), nil)
	isArchive(t, make([]byte, 1024), []api.File{})
	if n := Size(nil); n != 1024 {
		t.Fatalf("the archive of nothing has %d bytes", n)
	}
}

func TestP8_1Put(t *testing.T) {
	for name, l := range lists(t) {
		t.Run(name, func(t *testing.T) { isArchive(t, plain(t, l), l) })
	}
}

// TestP8_1Places has an archive told place by place.
func TestP8_1Places(t *testing.T) {
	b, e := Put([]api.File{{Path: "b", Data: []byte("xyz")}, {Path: "a/c"}, {Path: "d", Data: bytes.Repeat([]byte{7}, 513)}})
	if e != api.OK || len(b) != 1024+512+1536+1024 {
		t.Fatalf("%d bytes, %d", len(b), e)
	}
	for place, head := range map[int]api.File{0: {Path: "b", Data: make([]byte, 3)}, 1024: {Path: "a/c"}, 1536: {Path: "d", Data: make([]byte, 513)}} {
		want, _ := header.Put(head.Path, len(head.Data))
		if !bytes.Equal(b[place:place+512], want) {
			t.Errorf("at the place %d: %q, not %q", place, b[place:place+512], want)
		}
	}
	if string(b[512:515]) != "xyz" || !bytes.Equal(b[515:1024], make([]byte, 509)) {
		t.Errorf("the first file: %q", b[512:1024])
	}
	if !bytes.Equal(b[2048:2561], bytes.Repeat([]byte{7}, 513)) || !bytes.Equal(b[2561:], make([]byte, 511+1024)) {
		t.Errorf("the last file: %q", b[2048:])
	}
}

func TestP8_1AllSizes(t *testing.T) {
	for size := range 1600 {
		l := []api.File{file("a", size), file("b", 1600-size)}
		isArchive(t, plain(t, l), l)
	}
	for size := 1600; size <= 1<<22; size += size / 9 {
		l := []api.File{file("a", size)}
		isArchive(t, plain(t, l), l)
	}
}

// TestP8_1Tar has the archives that the standard library lays of the same files: of paths that aren't split they are the same, and all are read by it.
func TestP8_1Tar(t *testing.T) {
	for name, l := range lists(t) {
		t.Run(name, func(t *testing.T) {
			split := false
			var laid bytes.Buffer
			w := tar.NewWriter(&laid)
			for _, f := range l {
				split = split || len(f.Path) > 100
				if err := w.WriteHeader(&tar.Header{Typeflag: tar.TypeReg, Name: f.Path, Size: int64(len(f.Data)), Mode: 0o644, ModTime: time.Unix(0, 0), Format: tar.FormatUSTAR}); err != nil {
					t.Fatal(err)
				}
				if _, err := w.Write(f.Data); err != nil {
					t.Fatal(err)
				}
			}
			if err := w.Close(); err != nil {
				t.Fatal(err)
			}
			b, e := Put(l)
			if e != api.OK || !split && !bytes.Equal(b, laid.Bytes()) {
				t.Fatalf("Put(%s) = %d bytes, %d", told(l), len(b), e)
			}
			if got, ok := plainGet(t, b); !ok || !same(got, l) {
				t.Fatalf("read as %s, not %s", told(got), told(l))
			}
		})
	}
}

func TestP8_1MostFiles(t *testing.T) {
	for _, size := range []int{0, 1, 512} {
		for _, n := range []int{1, 2, 31, 32, 255, 256, 257, 399, 400} {
			l := numbered(n, size)
			isArchive(t, plain(t, l), l)
		}
		for _, n := range []int{401, 402, 512, 800, 1000, 65537} {
			putFails(t, numbered(n, size), api.ErrFull)
		}
	}
}

func TestP8_1MostBytes(t *testing.T) {
	const most = 1 << 22
	for _, sizes := range [][]int{{most}, {most - 1}, {most - 1, 1}, {1, most - 1}, {most, 0}, {0, most, 0}, {most / 2, most / 2}, {most/2 - 1, most / 2}, {most - 512, 511}, {most - 512, 512}, {512, 1, 1, most - 514}} {
		var l []api.File
		for i, size := range sizes {
			l = append(l, file("f"+strconv.Itoa(i), size))
		}
		isArchive(t, plain(t, l), l)
		for i := range l {
			room := most
			for _, size := range sizes {
				room -= size
			}
			grown := slices.Clone(l)
			grown[i].Data = file("", sizes[i]+room+1).Data
			putFails(t, grown, api.ErrFull)
			grown[i].Data = file("", sizes[i]+room).Data
			isArchive(t, plain(t, grown), grown)
		}
		if sizes[0] == most {
			putFails(t, append(l, file("g", 1)), api.ErrFull)
		}
	}
	putFails(t, []api.File{file("a", most+1)}, api.ErrFull)
	putFails(t, []api.File{file("a", 2*most)}, api.ErrFull)
	l := numbered(400, most/400)
	isArchive(t, plain(t, l), l)
	l[399].Data = file("", most-399*(most/400)).Data
	isArchive(t, plain(t, l), l)
	l[7].Data = file("", most/400+1).Data
	putFails(t, l, api.ErrFull)
	putFails(t, numbered(400, most/400+1), api.ErrFull)
	putFails(t, numbered(400, most), api.ErrFull)
	putFails(t, numbered(5, most-1), api.ErrFull)
}

// TestP8_1Path has paths that may not be at each place.
func TestP8_1Path(t *testing.T) {
	for _, path := range []string{"", "/", ".", "..", "/a", "a/", "a//b", "a/..", "a b", "a\x00", "\u00e9", "a\n", strings.Repeat("a", 101), strings.Repeat("a/", 127) + "b"} {
		if _, e := header.Put(path, 3); e != api.ErrPath {
			t.Fatalf("header.Put(%q): %d", path, e)
		}
		for n := 1; n <= 5; n++ {
			for i := range n {
				l := numbered(n, 3)
				l[i].Path = path
				putFails(t, l, api.ErrPath)
				l[n-1-i].Path = path
				putFails(t, l, api.ErrPath)
			}
		}
		for _, i := range []int{0, 1, 399} {
			l := numbered(400, 0)
			l[i].Path = path
			putFails(t, l, api.ErrPath)
		}
	}
}

// TestP8_1There has two files of one path, at all places and of all sizes.
func TestP8_1There(t *testing.T) {
	for n := 2; n <= 6; n++ {
		for i := range n {
			for j := range i {
				for _, size := range []int{0, 1, 512} {
					l := numbered(n, size)
					l[i].Path = l[j].Path
					putFails(t, l, api.ErrThere)
					l[i].Data = file("", 7).Data
					putFails(t, l, api.ErrThere)
				}
			}
		}
	}
	for _, path := range []string{"a", "a/b", "a~0-1", strings.Repeat("a", 100) + "/b"} {
		putFails(t, []api.File{file(path, 3), file(path, 3)}, api.ErrThere)
		putFails(t, slices.Repeat([]api.File{file(path, 0)}, 400), api.ErrThere)
	}
	for _, place := range [][2]int{{0, 399}, {0, 1}, {398, 399}, {255, 256}, {1, 257}} {
		l := numbered(400, 1)
		l[place[0]].Path = l[place[1]].Path
		putFails(t, l, api.ErrThere)
	}
}

// TestP8_1First has files of which several errors tell: the one that is named first is answered.
func TestP8_1First(t *testing.T) {
	const most = 1 << 22
	putFails(t, make([]api.File, 400), api.ErrPath)
	putFails(t, make([]api.File, 401), api.ErrFull)
	putFails(t, append(numbered(399, 0), file("f0", 0), file("", 0)), api.ErrFull)
	putFails(t, append(numbered(400, 0), file("f0", 0)), api.ErrFull)
	putFails(t, []api.File{file("/", most), file("/", 1)}, api.ErrFull)
	putFails(t, []api.File{file("a", most), file("a", 1)}, api.ErrFull)
	putFails(t, []api.File{file("a", most+1), file("", 0)}, api.ErrFull)
	putFails(t, []api.File{file("", 0), file("a", most+1)}, api.ErrFull)
	putFails(t, []api.File{file("", most+1)}, api.ErrFull)
	putFails(t, []api.File{file("", most)}, api.ErrPath)
	putFails(t, []api.File{file("", 1), file("", 1)}, api.ErrPath)
	putFails(t, []api.File{file("a", 1), file("a", 1), file("", 0)}, api.ErrPath)
	putFails(t, []api.File{file("", 0), file("a", 1), file("a", 1)}, api.ErrPath)
	putFails(t, []api.File{file("a", 1), file("", 0), file("a", 1)}, api.ErrPath)
	putFails(t, append(numbered(398, 0), file("f0", 0), file("a//b", 0)), api.ErrPath)
}

// TestP8_1Chance has files as chance has them: their archive, or the error that the chapter's words name.
func TestP8_1Chance(t *testing.T) {
	chance := rand.New(rand.NewPCG(8, 1)) // the same numbers each time
	paths := []string{"a", "b", "c", "a/b", "A", "a~1-1", strings.Repeat("a", 100) + "/b", "d", "e", "/", ""}
	seen := map[api.Errno]int{}
	for range 5000 {
		l := make([]api.File, chance.IntN(8))
		great := chance.IntN(50) == 0
		for i := range l {
			l[i] = file(paths[chance.IntN(len(paths)-chance.IntN(3))], chance.IntN(1200))
			if great && chance.IntN(2) == 0 {
				l[i] = file(l[i].Path, 1<<21)
			}
		}
		want := plainWrong(l)
		seen[want]++
		if want == api.OK {
			isArchive(t, plain(t, l), l)
		} else {
			putFails(t, l, want)
		}
	}
	for _, e := range []api.Errno{api.OK, api.ErrFull, api.ErrPath, api.ErrThere} {
		if seen[e] < 20 {
			t.Errorf("the error %d: %d times", e, seen[e])
		}
	}
}

func TestP8_1Size(t *testing.T) {
	for name, l := range lists(t) {
		var sizes []int
		for _, f := range l {
			sizes = append(sizes, len(f.Data))
		}
		if got, want := Size(sizes), len(plain(t, l)); got != want {
			t.Errorf("%s: Size(%v) = %d, not %d", name, sizes, got, want)
		}
	}
	for _, c := range []struct {
		sizes []int
		want  int
	}{
		{[]int{}, 1024}, {[]int{0}, 1536}, {[]int{1}, 2048}, {[]int{511}, 2048}, {[]int{512}, 2048}, {[]int{513}, 2560}, {[]int{3, 0, 512, 600}, 1024 + 512 + 1024 + 1536 + 1024},
		{[]int{-1}, 1536}, {[]int{-4}, 1536}, {[]int{-511}, 1536}, {[]int{-512}, 1536}, {[]int{-513}, 1536}, {[]int{-1 << 40}, 1536}, {[]int{math.MinInt}, 1536}, {[]int{math.MinInt, math.MinInt, -1}, 1024 + 3*512},
		{[]int{-512, 512}, 1024 + 512 + 1024}, {[]int{512, -513, 1}, 1024 + 1024 + 512 + 1024},
		{[]int{1 << 22}, 1<<22 + 1536}, {[]int{1<<22 + 1}, 1<<22 + 2048}, {[]int{1 << 22, 1 << 22}, 1<<23 + 2048}, {[]int{1<<31 - 1}, 1<<31 + 1536}, {[]int{1 << 31, 1 << 32}, 1<<31 + 1<<32 + 2048}, {[]int{1 << 40}, 1<<40 + 1536},
		{make([]int, 400), 1024 + 400*512}, {make([]int, 401), 1024 + 401*512}, {make([]int, 100000), 1024 + 100000*512}, {slices.Repeat([]int{1}, 401), 1024 + 401*1024}, {slices.Repeat([]int{-1}, 1000), 1024 + 1000*512},
	} {
		if got := Size(c.sizes); got != c.want {
			t.Errorf("Size of %d sizes = %d, not %d", len(c.sizes), got, c.want)
		}
	}
	for size := -1100; size < 5000; size++ {
		blocks := 0
		for blocks*512 < size {
			blocks++
		}
		if got, want := Size([]int{size, 7, size}), 1024+3*512+512+2*512*blocks; got != want {
			t.Fatalf("Size of %d, 7, %d = %d, not %d", size, size, got, want)
		}
	}
	Size([]int{math.MaxInt, math.MaxInt, math.MinInt, 1<<62 + 1}) // of these it need only end
}

// TestP8_2TooMuch has what would be archives, were there not more files, or bytes of files, than an archive may have.
func TestP8_2TooMuch(t *testing.T) {
	for _, n := range []int{401, 402, 800, 5000} {
		getFails(t, plain(t, numbered(n, 0)))
		getFails(t, plain(t, numbered(n, 1)))
	}
	const most = 1 << 22
	for _, sizes := range [][]int{{most, 1}, {1, most}, {most, most}, {most / 2, most / 2, 1}, {most - 1, 1, 0, 1}, {0, most, 0, 0, 1}, slices.Repeat([]int{most/400 + 1}, 400), slices.Repeat([]int{most}, 9)} {
		var l []api.File
		for i, size := range sizes {
			l = append(l, file("f"+strconv.Itoa(i), size))
		}
		getFails(t, plain(t, l))
	}
}

// TestP8_2There has what would be archives, had not two files one path.
func TestP8_2There(t *testing.T) {
	for n := 2; n <= 6; n++ {
		for i := range n {
			for j := range i {
				l := numbered(n, 3*n)
				l[i].Path = l[j].Path
				getFails(t, plain(t, l))
				l[i].Data = nil
				getFails(t, plain(t, l))
			}
		}
	}
	for _, place := range [][2]int{{0, 399}, {0, 1}, {398, 399}, {255, 256}} {
		l := numbered(400, 1)
		l[place[0]].Path = l[place[1]].Path
		getFails(t, plain(t, l))
	}
	getFails(t, plain(t, slices.Repeat([]api.File{file("a", 0)}, 400)))
}

// TestP8_2AnyByte has each place with another byte: most often there is no archive, else that of other files.
func TestP8_2AnyByte(t *testing.T) {
	l := []api.File{file("b", 3), file("a/c", 0), file("a/d", 513)}
	b := plain(t, l)
	archives := 0
	for i, was := range b {
		for _, c := range []byte{0, 1, ' ', '0', '1', '7', 'a', 'b', '/', was + 1, was - 1, was ^ 0x80, 0xff} {
			if c == was {
				continue
			}
			b[i] = c
			changed := asPlain(t, b)
			if data := 512 <= i && i < 515 || 2048 <= i && i < 2561; changed != data {
				t.Fatalf("%d at the place %d: archive %v", c, i, changed)
			}
			if changed {
				archives++
			}
		}
		b[i] = was
	}
	if archives < 5000 {
		t.Fatalf("only %d archives", archives)
	}
}

// TestP8_2Behind has all other bytes at the places at which 0 must be: behind files' bytes, and behind all.
func TestP8_2Behind(t *testing.T) {
	for _, size := range []int{1, 300, 511, 513, 1023, 1025} {
		b := plain(t, []api.File{file("a", size), file("b", size)})
		whole := (size + 511) / 512 * 512
		for i := range b {
			first, second := i-512, i-1024-whole
			if first < size || first >= whole && second < size {
				continue
			}
			for c := 1; c < 256; c += 1 + i%31 {
				b[i] = byte(c)
				getFails(t, b)
			}
			b[i] = 0
		}
	}
	b := make([]byte, 1024)
	for i := range b {
		for c := 1; c < 256; c++ {
			b[i] = byte(c)
			getFails(t, b)
		}
		b[i] = 0
	}
}

// TestP8_2Size has headers that tell more or fewer bytes than there are.
func TestP8_2Size(t *testing.T) {
	for _, size := range []int{0, 1, 3, 511, 512, 513, 1024, 1025} {
		l := []api.File{file("a", 700), file("b", size), file("c", 9)}
		b := plain(t, l)
		for _, told := range []int{0, 1, 2, 3, 4, 510, 511, 512, 513, 1023, 1024, 1025, 1536, 1537, 2048, 2560, 3072, 4096, 65536, 1<<22 - 700, 1<<22 - 1, 1 << 22} {
			for i, place := range []int{0, 1536} {
				head, e := header.Put(l[i].Path, told)
				if e != api.OK {
					t.Fatal(e)
				}
				other := bytes.Clone(b)
				copy(other[place:], head)
				asPlain(t, other)
			}
		}
		for _, told := range []int{1, 2, 511, 512, 513, 1024, 65536, 1 << 22} {
			last := plain(t, []api.File{file("a", size)})
			head, e := header.Put("a", size+told)
			if size+told > 1<<22 {
				continue
			}
			if e != api.OK {
				t.Fatal(e)
			}
			copy(last, head)
			asPlain(t, last)
		}
	}
}

// TestP8_2SizeBeyond has a file that would take up the end, or go on behind it.
func TestP8_2SizeBeyond(t *testing.T) {
	for _, size := range []int{1, 512, 1023, 1024, 1025, 1536, 1 << 22} {
		head, e := header.Put("a", size)
		if e != api.OK {
			t.Fatal(e)
		}
		for n := 0; n <= 2048; n += 256 {
			b := append(bytes.Clone(head), make([]byte, n)...)
			want := n == 1024+(size+511)/512*512
			if got := asPlain(t, b); got != want {
				t.Fatalf("%d bytes 0 behind the header of %d: archive %v", n, size, got)
			}
			asPlain(t, b[:len(b):len(b)])
		}
	}
}

// TestP8_2Others has archives of the standard library's that hold other things than plain files, or more than their paths and bytes.
func TestP8_2Others(t *testing.T) {
	for i, change := range []func(h *tar.Header){
		func(h *tar.Header) { h.Mode = 0o755 }, func(h *tar.Header) { h.Uid = 1 }, func(h *tar.Header) { h.ModTime = time.Unix(1, 0) }, func(h *tar.Header) { h.Uname = "a" },
		func(h *tar.Header) { h.Typeflag, h.Size = tar.TypeDir, 0 }, func(h *tar.Header) { h.Typeflag, h.Size, h.Linkname = tar.TypeSymlink, 0, "a" }, func(h *tar.Header) { h.Typeflag, h.Size, h.Linkname = tar.TypeLink, 0, "a" }, func(h *tar.Header) { h.Typeflag, h.Size = tar.TypeFifo, 0 },
		func(h *tar.Header) { h.Name = "./x" }, func(h *tar.Header) { h.Name = "/x" }, func(h *tar.Header) { h.Name = "x y" }, func(h *tar.Header) { h.Name = "a" },
		func(h *tar.Header) { h.Format = tar.FormatGNU }, func(h *tar.Header) { h.Format, h.PAXRecords = tar.FormatPAX, map[string]string{"comment": "a"} },
		func(h *tar.Header) { h.Name = strings.Repeat("a", 100) + "/b/c" }, // split at its last byte /
	} {
		var laid bytes.Buffer
		w := tar.NewWriter(&laid)
		h := tar.Header{Typeflag: tar.TypeReg, Name: "a", Size: 2, Mode: 0o644, ModTime: time.Unix(0, 0), Format: tar.FormatUSTAR}
		if err := w.WriteHeader(&h); err != nil {
			t.Fatal(err)
		}
		w.Write([]byte("hi"))
		other := h
		other.Name = "b"
		change(&other)
		if err := w.WriteHeader(&other); err != nil {
			t.Fatal(i, err)
		}
		if other.Size > 0 {
			w.Write([]byte("ho"))
		}
		if err := w.Close(); err != nil {
			t.Fatal(i, err)
		}
		getFails(t, laid.Bytes())
	}
}

// TestP8_2Wrong has bytes that are nothing.
func TestP8_2Wrong(t *testing.T) {
	getFails(t, nil)
	for _, c := range []byte{0, 1, ' ', '0', 'a', 0x80, 0xff} {
		for _, n := range []int{1, 2, 3, 511, 512, 513, 1023, 1024, 1025, 1535, 1536, 1537, 2048, 3072, 1 << 20, 1 << 23} {
			if c != 0 || n != 1024 {
				getFails(t, bytes.Repeat([]byte{c}, n))
			}
		}
	}
	b := plain(t, []api.File{file("a", 3), file("b", 513)})
	for i := 1; i < len(b); i++ {
		getFails(t, append(make([]byte, i), b...))
		// Without its first file, or all of them, an archive is one, too.
		if got := asPlain(t, b[i:]); got != (i == 1024 || i == len(b)-1024) {
			t.Fatalf("from the place %d on: archive %v", i, got)
		}
	}
}

// TestP8_2Blocks has blocks of all kinds one behind the other as chance has them.
func TestP8_2Blocks(t *testing.T) {
	chance := rand.New(rand.NewPCG(8, 2)) // the same numbers each time
	var blocks [][]byte
	for _, path := range []string{"a", "b", "c/d", "a~0-1"} {
		for _, size := range []int{0, 1, 3, 512, 513, 1024} {
			head, _ := header.Put(path, size)
			blocks = append(blocks, head)
		}
	}
	zeros := make([]byte, 512)
	kinds := [][]byte{zeros, zeros, append([]byte("x"), zeros[1:]...), append([]byte("xyz"), zeros[3:]...), bytes.Repeat([]byte("x"), 512), append(bytes.Repeat([]byte{0}, 511), 1), zeros[:100]}
	archives := 0
	for range 60000 {
		var b []byte
		for range chance.IntN(9) {
			if chance.IntN(2) == 0 {
				b = append(b, blocks[chance.IntN(len(blocks))]...)
			} else {
				b = append(b, kinds[chance.IntN(len(kinds)-chance.IntN(2))]...)
			}
		}
		if chance.IntN(4) > 0 {
			b = append(b, make([]byte, 1024)...)
		}
		if asPlain(t, b) && len(b) > 1024 {
			archives++
		}
	}
	if archives < 1000 {
		t.Fatalf("only %d archives", archives)
	}
}

// TestP8_3Begin has all beginnings of archives: none is one.
func TestP8_3Begin(t *testing.T) {
	for name, l := range lists(t) {
		b := plain(t, l)
		step := 1 + len(b)/8192
		for n := 0; n < len(b); n++ {
			if n%step == 0 || n%512 < 2 || n%512 == 511 || n > len(b)-1100 {
				if m, e := Get(b[:n]); len(m) != 0 || e != api.ErrForm {
					t.Fatalf("%s: the first %d bytes of %d: %s, %d", name, n, len(b), told(m), e)
				}
			}
		}
	}
}

// TestP8_3Behind has archives with something behind them: none is one.
func TestP8_3Behind(t *testing.T) {
	m := lists(t)
	for name, l := range m {
		b := plain(t, l)
		for c := range 256 {
			getFails(t, append(b[:len(b):len(b)], byte(c)))
		}
		for _, n := range []int{2, 511, 512, 513, 1023, 1024, 1025, 1536, 2048, 10240} {
			getFails(t, append(b[:len(b):len(b)], make([]byte, n)...))
		}
		for _, other := range m {
			getFails(t, append(b[:len(b):len(b)], plain(t, other)...))
		}
		// What goes on instead of the end is an archive again, unless a path is there twice.
		more := append(b[:len(b)-1024:len(b)-1024], plain(t, []api.File{file("z", 5)})...)
		if !asPlain(t, more) {
			t.Fatalf("%s: nothing can be put behind its files", name)
		}
		getFails(t, append(b[:len(b)-512:len(b)-512], plain(t, []api.File{file("z", 5)})...))
	}
}

// TestP8_3Unlike holds that no two lists have one archive, nor one that the other begins with; the same files in another order have another one.
func TestP8_3Unlike(t *testing.T) {
	var all [][]byte
	for _, l := range lists(t) {
		all = append(all, plain(t, l))
	}
	l := []api.File{file("a", 1), file("b", 0), file("c", 512)}
	for _, order := range [][]int{{0, 1, 2}, {0, 2, 1}, {1, 0, 2}, {1, 2, 0}, {2, 0, 1}, {2, 1, 0}} {
		m := []api.File{l[order[0]], l[order[1]], l[order[2]]}
		b, e := Put(m)
		if e != api.OK {
			t.Fatal(e)
		}
		isArchive(t, b, m)
		all = append(all, b)
	}
	for i := range all {
		for j := range all {
			if i != j && bytes.HasPrefix(all[i], all[j]) {
				t.Fatalf("an archive of %d bytes begins with one of %d", len(all[i]), len(all[j]))
			}
		}
	}
}

// TestP8_3Changed has archives changed at some places at once, cut and filled: all that are read are laid as they stood.
func TestP8_3Changed(t *testing.T) {
	chance := rand.New(rand.NewPCG(8, 3)) // the same numbers each time
	kinds := []byte("\x00\x00/ab.~01237 \xff")
	whole := plain(t, []api.File{file("b", 3), file("a/c", 0), {Path: "z", Data: make([]byte, 1025)}, file("d", 512)})
	archives := 0
	for range 30000 {
		b := bytes.Clone(whole)
		for range chance.IntN(3) {
			b[chance.IntN(len(b))] = kinds[chance.IntN(len(kinds))]
		}
		if chance.IntN(3) == 0 { // a block less
			i := 512 * chance.IntN(len(b)/512)
			b = append(b[:i], b[i+512:]...)
		}
		if chance.IntN(3) == 0 { // a block twice
			i := 512 * chance.IntN(len(b)/512)
			b = append(b[:i+512], bytes.Clone(b[i:])...)
		}
		if asPlain(t, b) {
			archives++
		}
	}
	if archives < 5000 {
		t.Fatalf("only %d archives", archives)
	}
}

// TestR2 holds that nil and empty are the same, handed in and out.
func TestR2(t *testing.T) {
	want := plain(t, []api.File{file("a", 0), file("b", 0)})
	isArchive(t, want, []api.File{{Path: "a"}, {Path: "b", Data: []byte{}}})
	if l, e := Get(make([]byte, 1024)); len(l) != 0 || e != api.OK {
		t.Fatalf("the archive of nothing: %s, %d", told(l), e)
	}
	getFails(t, []byte{})
}

// TestR3Put holds that Put leaves what it is handed as it is, and that its answer is the caller's own.
func TestR3Put(t *testing.T) {
	data := append(make([]byte, 0, 2000), "xyz"...)
	l := append(make([]api.File, 0, 9), api.File{Path: "b", Data: data}, file("a", 512), file("c", 0))
	was := []api.File{file("", 0), file("a", 512), file("c", 0)}
	was[0] = api.File{Path: "b", Data: []byte("xyz")}
	want := plain(t, was)
	first, e := Put(l)
	if e != api.OK || !bytes.Equal(first, want) || !same(l, was) || !bytes.Equal(data[3:2000], make([]byte, 1997)) || !same(l[3:9], make([]api.File, 6)) {
		t.Fatalf("Put(%s): %d", told(was), e)
	}
	for i := range first {
		first[i] ^= 0xff
	}
	if !same(l, was) {
		t.Fatal("the archive and its files share bytes")
	}
	second, _ := Put(l)
	clear(data)
	clear(l[1].Data)
	clear(l)
	if !bytes.Equal(second, want) {
		t.Fatal("the archive and its files share bytes")
	}
}

// TestR3Get holds that Get leaves what it is handed as it is, and that its answer is the caller's own, each file's bytes apart.
func TestR3Get(t *testing.T) {
	l := []api.File{file("b", 512), file("a", 1024), file("c", 0), file("d", 3)}
	want := plain(t, l)
	b := append(bytes.Clone(want), "more"...)
	got, e := Get(b[:len(want)])
	if e != api.OK || !bytes.Equal(b[:len(want)], want) || string(b[len(want):]) != "more" {
		t.Fatalf("Get changed what was handed in: %d", e)
	}
	clear(b)
	if !same(got, l) {
		t.Fatal("the files and their archive share bytes")
	}
	b = bytes.Clone(want)
	got, _ = Get(b)
	for i := range got {
		clear(got[i].Data)
		if grown := got[i].Data; cap(grown) > len(grown) {
			clear(grown[:cap(grown)])
		}
		_ = append(got[i].Data, 1, 2, 3)
		if !bytes.Equal(b, want) || !same(got[i+1:], l[i+1:]) {
			t.Fatalf("the bytes of %s are shared", got[i].Path)
		}
	}
	bad := bytes.Clone(want)
	bad[len(bad)-1] = 1
	was := bytes.Clone(bad)
	getFails(t, bad)
	if !bytes.Equal(bad, was) {
		t.Fatal("Get changed what was handed in")
	}
	again, e := Get(want)
	if e != api.OK || !same(again, l) {
		t.Fatalf("got again: %s, %d", told(again), e)
	}
}

// TestR3Size holds that Size leaves what it is handed as it is.
func TestR3Size(t *testing.T) {
	sizes := []int{-1, 3, 512, -600, 1}
	was := slices.Clone(sizes)
	Size(sizes)
	if !slices.Equal(sizes, was) {
		t.Fatalf("%v became %v", was, sizes)
	}
}
