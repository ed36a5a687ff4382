package view

import (
	"bytes"
	"fmt"
	"math"
	"slices"
	"sort"
	"strings"
	"testing"

	"bindle/api"
	"bindle/event"
	"bindle/heads"
	"bindle/path"
	"bindle/sha"
	"bindle/vec"
)

// chain tells numbers of a fixed rule, one after the other.
type chain uint64

func (c *chain) word() uint64 {
	*c = *c*6364136223846793005 + 1442695040888963407
	return uint64(*c) ^ uint64(*c)>>33
}

// below is one of the fixed rule, from 0 to n-1.
func (c *chain) below(n int) int {
	return int(c.word() >> 9 % uint64(n))
}

// of is one of l.
func of[T any](c *chain, l []T) T {
	return l[c.below(len(l))]
}

// some is n of l, by the fixed rule, one more often than once perhaps.
func some[T any](c *chain, l []T, n int) []T {
	var s []T
	for range n {
		s = append(s, of(c, l))
	}
	return s
}

// put is the Put of the dot {replica, seq} at a path, with a digest and a size that hang on its dot.
func put(replica int, seq int64, path string) api.Event {
	data := fmt.Appendf(nil, "%d-%d", replica, seq)
	return api.Event{Dot: api.Dot{Replica: replica, Seq: seq}, Kind: api.Put, Path: path, Sum: sha.Sum(data), Size: len(data)}
}

// del is the Delete of the dot {replica, seq} at a path.
func del(replica int, seq int64, path string) api.Event {
	return api.Event{Dot: api.Dot{Replica: replica, Seq: seq}, Kind: api.Delete, Path: path}
}

// as is what is seen of e at a path.
func as(e api.Event, path string) Shown {
	return Shown{Path: path, Dot: e.Dot, Sum: e.Sum, Size: e.Size}
}

// told is all of l, a line each, so that two are told alike if, and only if, all their fields are the same.
func told(l []Shown) string {
	var b strings.Builder
	for _, s := range l {
		fmt.Fprintf(&b, "%q %d %x %d\n", s.Path, s.Dot, s.Sum, s.Size)
	}
	return b.String()
}

// toldFiles is all of l, a line each.
func toldFiles(l []api.File) string {
	var b strings.Builder
	for _, f := range l {
		fmt.Fprintf(&b, "%q %q\n", f.Path, f.Data)
	}
	return b.String()
}

// tells holds that got is want.
func tells[T comparable](t *testing.T, got, want T, what string, args ...any) {
	t.Helper()
	if got != want {
		t.Fatalf("%.9999s = %.9999v, not %.9999v", fmt.Sprintf(what, args...), fmt.Sprint(got), fmt.Sprint(want))
	}
}

// is holds that got is want.
func is(t *testing.T, got, want []Shown, what string, args ...any) {
	t.Helper()
	if g, w := told(got), told(want); g != w {
		t.Fatalf("%.9999s:\n%.9999s\nnot:\n%.9999s", fmt.Sprintf(what, args...), g, w)
	}
}

// paths holds that h is seen at these paths, rising, each with the dot behind it: "a 1:1, a~0-1 0:1".
func paths(t *testing.T, h []api.Event, want string) {
	t.Helper()
	var got []string
	for _, s := range View(h) {
		got = append(got, fmt.Sprintf("%s %d:%d", s.Path, s.Dot.Replica, s.Dot.Seq))
	}
	tells(t, strings.Join(got, ", "), want, "View(%v)", h)
}

// plainAbove tells whether d stands above f.
func plainAbove(d, f api.Dot) bool {
	if d.Replica != f.Replica {
		return d.Replica > f.Replica
	}
	return d.Seq > f.Seq
}

// plainView is what h shows, told by the chapter's words.
func plainView(h []api.Event) []Shown {
	var puts []api.Event
	for _, e := range h {
		if e.Kind == 1 {
			puts = append(puts, e)
		}
	}
	var l []Shown
	for _, e := range puts {
		at := e.Path
		for _, f := range puts {
			isDirectory := strings.HasPrefix(f.Path, e.Path+"/") && len(f.Path) > len(e.Path)+1
			if isDirectory || f.Path == e.Path && plainAbove(f.Dot, e.Dot) {
				at = fmt.Sprintf("%s~%d-%d", e.Path, e.Dot.Replica, e.Dot.Seq)
			}
		}
		l = append(l, Shown{at, e.Dot, e.Sum, e.Size})
	}
	sort.SliceStable(l, func(i, j int) bool { return l[i].Path < l[j].Path })
	return l
}

// plainFits tells whether data is what s shows.
func plainFits(s Shown, data []byte) bool {
	return len(data) == s.Size && sha.Sum(data) == s.Sum
}

// plainTree is the files of l, told by the chapter's words.
func plainTree(l []Shown, blobs [][]byte) ([]api.File, api.Errno) {
	var files []api.File
	for _, s := range l {
		i := slices.IndexFunc(blobs, func(data []byte) bool { return plainFits(s, data) })
		if i < 0 {
			return nil, api.ErrNone
		}
		files = append(files, api.File{Path: s.Path, Data: blobs[i]})
	}
	return files, api.OK
}

// holds holds that View and Main tell of h what the chapter's words have, at paths that h has and others.
func holds(t *testing.T, h []api.Event) {
	t.Helper()
	l := View(h)
	is(t, l, plainView(h), "View(%v)", h)
	asked := []string{"", "a", "zz"}
	for _, s := range l {
		asked = append(asked, s.Path, s.Path+"/", s.Path[:len(s.Path)/2])
	}
	slices.Reverse(l)
	for _, p := range asked {
		var want Shown
		i := slices.IndexFunc(l, func(s Shown) bool { return s.Path == p })
		if i >= 0 {
			want = l[i]
		}
		got, found := Main(l, p)
		tells(t, got, want, "Main(%v, %q)", l, p)
		tells(t, found, i >= 0, "whether Main(%v, %q) found one", l, p)
	}
}

func TestP14_1Examples(t *testing.T) {
	paths(t, []api.Event{put(0, 1, "a"), put(1, 1, "a")}, "a 1:1, a~0-1 0:1")
	paths(t, []api.Event{put(0, 1, "a"), put(1, 1, "a/b")}, "a/b 1:1, a~0-1 0:1")
	paths(t, []api.Event{put(0, 1, "a")}, "a 0:1")
	paths(t, nil, "")
}

// TestP14_1Fields has each of a Put's fields that is shown, and others that aren't asked.
func TestP14_1Fields(t *testing.T) {
	e := put(7, 9, "x/y")
	e.Deps = api.Vec{{Replica: 7, Seq: 8}}
	is(t, View([]api.Event{e}), []Shown{{"x/y", api.Dot{Replica: 7, Seq: 9}, sha.Sum([]byte("7-9")), 3}}, "View of one")
	for _, e := range []api.Event{{Kind: api.Put}, {Kind: api.Put, Path: "~", Size: -1}, {Kind: api.Put, Path: "/", Size: math.MinInt, Sum: api.Digest{31: 1}}, {Kind: api.Put, Path: "a", Size: math.MaxInt, Dot: api.Dot{Replica: 99, Seq: -1}}} {
		is(t, View([]api.Event{e}), []Shown{as(e, e.Path)}, "View of %v", e)
	}
}

// TestP14_1Dots has two and more Puts at a path: the greatest dot alone has the path, by replicas first.
func TestP14_1Dots(t *testing.T) {
	paths(t, []api.Event{put(0, 9, "a"), put(1, 1, "a")}, "a 1:1, a~0-9 0:9")
	paths(t, []api.Event{put(2, 1, "a"), put(10, 1, "a")}, "a 10:1, a~2-1 2:1")
	paths(t, []api.Event{put(3, 9, "a"), put(3, 10, "a")}, "a 3:10, a~3-9 3:9")
	paths(t, []api.Event{put(3, 10, "a"), put(3, 9, "a")}, "a 3:10, a~3-9 3:9")
	paths(t, []api.Event{put(0, 1, "a"), put(1, 1, "a"), put(2, 1, "a")}, "a 2:1, a~0-1 0:1, a~1-1 1:1")
	paths(t, []api.Event{put(2, 1, "a"), put(10, 1, "a"), put(9, 1, "a")}, "a 10:1, a~2-1 2:1, a~9-1 9:1")
	paths(t, []api.Event{put(0, 1<<40-1, "a"), put(0, 1<<40, "a")}, "a 0:1099511627776, a~0-1099511627775 0:1099511627775")
	// Beyond what may be they have their order, too.
	paths(t, []api.Event{put(0, 1, "a"), put(-1, 1, "a")}, "a 0:1, a~-1-1 -1:1")
	paths(t, []api.Event{put(0, 0, "a"), put(0, -1, "a")}, "a 0:0, a~0--1 0:-1")
	paths(t, []api.Event{put(-5, math.MinInt64, "a"), put(-5, -1, "a")}, "a -5:-1, a~-5--9223372036854775808 -5:-9223372036854775808")
	paths(t, []api.Event{put(0, 1<<60, "a"), put(0, 1<<60+1, "a")}, "a 0:1152921504606846977, a~0-1152921504606846976 0:1152921504606846976")
	// At other paths a greater dot hinders nothing.
	paths(t, []api.Event{put(0, 1, "a"), put(1, 1, "b"), put(2, 1, "A")}, "A 2:1, a 0:1, b 1:1")
}

// TestP14_1Directories has Puts that lie under others, and some that only seem to.
func TestP14_1Directories(t *testing.T) {
	paths(t, []api.Event{put(0, 1, "a"), put(0, 2, "a/b/c")}, "a/b/c 0:2, a~0-1 0:1")
	paths(t, []api.Event{put(0, 1, "a"), put(0, 3, "a/b"), put(0, 2, "a/b/c")}, "a/b/c 0:2, a/b~0-3 0:3, a~0-1 0:1")
	paths(t, []api.Event{put(0, 1, "a"), put(0, 2, "a-b"), put(0, 3, "a.b"), put(0, 4, "ab"), put(0, 5, "b/a")}, "a 0:1, a-b 0:2, a.b 0:3, ab 0:4, b/a 0:5")
	paths(t, []api.Event{put(0, 1, "a"), put(0, 2, "a-b"), put(0, 3, "a.b"), put(0, 4, "a/b"), put(0, 5, "a0")}, "a-b 0:2, a.b 0:3, a/b 0:4, a0 0:5, a~0-1 0:1")
	paths(t, []api.Event{put(0, 1, "b"), put(0, 2, "a/b"), put(0, 3, "b0/b"), put(0, 4, "B/b")}, "B/b 0:4, a/b 0:2, b 0:1, b0/b 0:3")
	// All of a directory's Puts are copies, the one of the greatest dot, too.
	paths(t, []api.Event{put(0, 1, "a"), put(5, 1, "a"), put(0, 2, "a/b")}, "a/b 0:2, a~0-1 0:1, a~5-1 5:1")
	// What lies under it makes a directory, be it a copy itself.
	paths(t, []api.Event{put(0, 1, "a"), put(0, 2, "a/b"), put(3, 1, "a/b")}, "a/b 3:1, a/b~0-2 0:2, a~0-1 0:1")
	// The order in which they stand makes nothing.
	paths(t, []api.Event{put(0, 3, "a/b"), put(0, 2, "a/b/c"), put(0, 1, "a")}, "a/b/c 0:2, a/b~0-3 0:3, a~0-1 0:1")
}

// TestP14_1Deletes has Deletes, and kinds that are none: they aren't shown, make no directory and have no path.
func TestP14_1Deletes(t *testing.T) {
	for _, kind := range []int{api.Delete, 0, -1, 3, 256 + 1, 1<<32 + 1, math.MinInt, math.MaxInt} {
		e, f := del(31, 9, "a"), del(31, 8, "a/b")
		e.Kind, f.Kind = kind, kind
		paths(t, []api.Event{e}, "")
		paths(t, []api.Event{e, f}, "")
		paths(t, []api.Event{put(0, 1, "a"), e}, "a 0:1")
		paths(t, []api.Event{e, put(0, 1, "a")}, "a 0:1")
		paths(t, []api.Event{put(0, 1, "a"), f}, "a 0:1")
		paths(t, []api.Event{put(0, 1, "a"), e, f, put(1, 1, "a")}, "a 1:1, a~0-1 0:1")
		paths(t, []api.Event{e, put(0, 1, "a/b")}, "a/b 0:1")
	}
}

// TestP14_1Loose has lists that aren't heads, of paths that may not be: whatever stands in them, it is done as the words say.
func TestP14_1Loose(t *testing.T) {
	// Of one dot none is above the other; of one path they stay as they stood.
	one, other := put(1, 1, "a"), put(1, 1, "a")
	other.Size = 77
	is(t, View([]api.Event{one, other}), []Shown{as(one, "a"), as(other, "a")}, "View of one dot twice")
	is(t, View([]api.Event{other, one}), []Shown{as(other, "a"), as(one, "a")}, "View of one dot twice")
	low := put(0, 1, "a")
	is(t, View([]api.Event{low, other, low, one}), []Shown{as(other, "a"), as(one, "a"), as(low, "a~0-1"), as(low, "a~0-1")}, "View of some twice")
	user := put(0, 5, "a~0-1")
	is(t, View([]api.Event{low, user, one}), []Shown{as(one, "a"), as(low, "a~0-1"), as(user, "a~0-1")}, "View with a path like a copy's")
	is(t, View([]api.Event{user, low, one}), []Shown{as(one, "a"), as(user, "a~0-1"), as(low, "a~0-1")}, "View with a path like a copy's")
	// Under a directory lies one byte at least; a byte / is one, too.
	paths(t, []api.Event{put(0, 1, "a"), put(0, 2, "a/")}, "a 0:1, a/ 0:2")
	paths(t, []api.Event{put(0, 1, "a"), put(0, 2, "a//")}, "a// 0:2, a~0-1 0:1")
	paths(t, []api.Event{put(0, 1, "a/"), put(0, 2, "a//b")}, "a//b 0:2, a/~0-1 0:1")
	paths(t, []api.Event{put(0, 1, "a"), put(0, 2, "a/"), put(0, 3, "a/\x00")}, "a/ 0:2, a/\x00 0:3, a~0-1 0:1")
	paths(t, []api.Event{put(0, 1, "a"), put(0, 2, "a/\xff")}, "a/\xff 0:2, a~0-1 0:1")
	paths(t, []api.Event{put(0, 1, ""), put(0, 2, "/b")}, "/b 0:2, ~0-1 0:1")
	paths(t, []api.Event{put(0, 1, ""), put(0, 2, "/")}, " 0:1, / 0:2")
	paths(t, []api.Event{put(0, 1, ""), put(0, 2, "b")}, " 0:1, b 0:2")
	paths(t, []api.Event{put(0, 1, "a"), put(0, 2, "a\\b"), put(0, 3, "á/b"), put(0, 4, "a\x2f")}, "a 0:1, a/ 0:4, a\\b 0:2, á/b 0:3")
}

var names = []string{"a", "a-b", "a.b", "a/b", "a/b/c", "a0", "b", "b/a", "a/bb"}

// odds is events of all kinds: of few paths and dots, so that some are alike, and many may not be.
func odds(c *chain) []api.Event {
	dots := []api.Dot{{}, {Replica: 0, Seq: 1}, {Replica: 0, Seq: 2}, {Replica: 1, Seq: 1}, {Replica: 2, Seq: 1}, {Replica: 31, Seq: 1 << 40}, {Replica: 0, Seq: -1}, {Replica: -1, Seq: 1}, {Replica: 1 << 40, Seq: 1}, {Replica: math.MinInt, Seq: math.MinInt64}, {Replica: math.MaxInt, Seq: math.MaxInt64}}
	wild := append(slices.Clone(names), "", "/", "//", "a/", "a//", "a//b", "/a", "a~0-1", "a/b~1-1", "a~0-1/b", "\xff", "a\xff", "a/\x00", "a/\xff", strings.Repeat("x", 201))
	var l []api.Event
	for range 60 {
		e := put(0, int64(c.below(99)), of(c, wild))
		e.Dot = of(c, dots)
		if c.below(4) == 0 {
			e.Kind = c.below(4)
		}
		l = append(l, e)
	}
	return l
}

// history is the events of so many replicas at names: each makes some of what it knows, and they tell each other all they know.
func history(t *testing.T, c *chain, replicas, steps int, names ...string) []api.Event {
	t.Helper()
	known := make([]api.Vec, replicas)
	var all []api.Event
	for range steps {
		r, other := c.below(replicas), c.below(replicas)
		if c.below(3) == 0 {
			known[r] = vec.Join(known[r], known[other])
			continue
		}
		e := put(r, vec.Get(known[r], r)+1, of(c, names))
		if c.below(4) == 0 {
			e = del(r, e.Dot.Seq, e.Path)
		}
		e.Deps = known[r]
		tells(t, event.May(e), true, "event.May(%v)", e)
		known[r] = vec.With(known[r], e.Dot)
		all = append(all, e)
	}
	return all
}

func TestP14_1(t *testing.T) {
	c := chain(113)
	for range 200 {
		for _, pool := range [][]api.Event{odds(&c), history(t, &c, 1+c.below(32), 40, names...)} {
			for range 10 {
				h := some(&c, pool, c.below(14))
				holds(t, h)
				holds(t, heads.Join(nil, h))
				slices.SortFunc(h, event.Compare)
				holds(t, h)
			}
		}
	}
}

// TestP14_1AllSmall has all lists of up to four of a few events.
func TestP14_1AllSmall(t *testing.T) {
	pool := []api.Event{put(0, 1, "a"), put(1, 1, "a"), put(2, 1, "a-b"), put(3, 1, "a/b"), put(0, 2, "a/b/c"), del(4, 1, "a"), del(4, 2, "a/b/c")}
	lists := [][]api.Event{nil}
	for level := 0; level < len(lists); level++ {
		h := lists[level]
		holds(t, h)
		for _, e := range pool {
			if len(h) < 4 {
				lists = append(lists, append(slices.Clone(h), e))
			}
		}
	}
	tells(t, len(lists), 1+7+49+343+2401, "the count of lists")
}

func TestP14_1Main(t *testing.T) {
	b, a, twice, none := as(put(0, 1, "b"), "b"), as(put(0, 2, "a"), "a"), as(put(0, 3, "b"), "b"), as(put(0, 4, ""), "")
	for _, c := range []struct {
		l    []Shown
		path string
		want Shown
		is   bool
	}{
		{[]Shown{b, a, twice}, "b", b, true},
		{[]Shown{twice, a, b}, "b", twice, true},
		{[]Shown{b, a, twice}, "a", a, true},
		{[]Shown{a, twice}, "b", twice, true},
		{[]Shown{b, a}, "", Shown{}, false},
		{[]Shown{b, a, none}, "", none, true},
		{[]Shown{b, a}, "A", Shown{}, false},
		{[]Shown{b, a}, "ab", Shown{}, false},
		{[]Shown{b, a}, "a/b", Shown{}, false},
		{[]Shown{b, as(put(0, 2, "a"), "a~0-2")}, "a", Shown{}, false},
		{[]Shown{{}}, "", Shown{}, true},
		{nil, "", Shown{}, false},
		{nil, "a", Shown{}, false},
	} {
		got, found := Main(c.l, c.path)
		tells(t, got, c.want, "Main(%v, %q)", c.l, c.path)
		tells(t, found, c.is, "whether Main(%v, %q) found one", c.l, c.path)
	}
}

// TestP14_1MainOfView has a path itself where it is shown, its copies apart.
func TestP14_1MainOfView(t *testing.T) {
	l := View([]api.Event{put(0, 1, "a"), put(1, 1, "a"), put(0, 2, "b"), put(1, 2, "b/c")})
	s, found := Main(l, "a")
	tells(t, s.Dot, api.Dot{Replica: 1, Seq: 1}, "the dot at a")
	tells(t, found, true, "whether a is shown")
	s, found = Main(l, "b")
	tells(t, s, Shown{}, "what is at a directory")
	tells(t, found, false, "whether a directory is shown")
	s, found = Main(l, "b~0-2")
	tells(t, s.Dot, api.Dot{Replica: 0, Seq: 2}, "the dot at a copy")
	tells(t, found, true, "whether a copy is shown")
}

func TestP14_2Fits(t *testing.T) {
	for _, data := range [][]byte{nil, {0}, []byte("abc"), bytes.Repeat([]byte{0}, 64), bytes.Repeat([]byte("y"), 65536), bytes.Repeat([]byte("z"), 65537)} {
		s := Shown{Sum: sha.Sum(data), Size: len(data)}
		tells(t, Fits(s, data), true, "Fits of %d bytes", len(data))
		named := s
		named.Path, named.Dot = "a~0-1", api.Dot{Replica: -1, Seq: -1}
		tells(t, Fits(named, data), true, "Fits, whatever path and dot")
		for _, size := range []int{len(data) - 1, len(data) + 1, -len(data) - 1, -1, len(data) + 1<<32, math.MinInt, math.MaxInt, 65538} {
			tells(t, Fits(Shown{Sum: s.Sum, Size: size}, data), false, "Fits of %d bytes, shown as %d", len(data), size)
		}
		for bit := range 256 {
			other := s
			other.Sum[bit/8] ^= 1 << (bit % 8)
			tells(t, Fits(other, data), false, "Fits of %d bytes, with the digest's bit %d turned", len(data), bit)
		}
		tells(t, Fits(s, append(slices.Clone(data), 0)), false, "Fits of one byte more")
		if len(data) > 0 {
			tells(t, Fits(s, data[1:]), false, "Fits of one byte less")
			other := slices.Clone(data)
			other[len(other)-1] ^= 1
			tells(t, Fits(s, other), false, "Fits of another last byte")
		}
	}
	tells(t, Fits(Shown{}, nil), false, "Fits of nothing, of a digest of zeros")
	tells(t, Fits(Shown{Sum: sha.Sum(nil)}, nil), true, "Fits of nothing")
}

// shown is what is seen at a path of that content.
func shown(path, data string) Shown {
	return Shown{Path: path, Sum: sha.Sum([]byte(data)), Size: len(data)}
}

// texts is the contents of l.
func texts(l ...string) [][]byte {
	var blobs [][]byte
	for _, s := range l {
		blobs = append(blobs, []byte(s))
	}
	return blobs
}

func TestP14_2Tree(t *testing.T) {
	longer := shown("a", "x")
	longer.Size = 2
	negative := shown("a", "")
	negative.Size = -1
	for _, c := range []struct {
		l     []Shown
		blobs [][]byte
		want  string
		e     api.Errno
	}{
		{nil, nil, "", api.OK},
		{nil, texts("x", "y"), "", api.OK},
		{[]Shown{shown("a", "x")}, texts("x"), `"a" "x"`, api.OK},
		{[]Shown{shown("a", "x")}, texts("y", "xx", "", "x", "x", "z"), `"a" "x"`, api.OK},
		// In l's order, not in the blobs', nor by path.
		{[]Shown{shown("b", "x"), shown("a", "y"), shown("c", "z")}, texts("z", "y", "x"), `"b" "x" "a" "y" "c" "z"`, api.OK},
		{[]Shown{shown("b", "x"), shown("a", "y"), shown("b", "z")}, texts("x", "y", "z"), `"b" "x" "a" "y" "b" "z"`, api.OK},
		// One blob for several.
		{[]Shown{shown("b", "x"), shown("a", "x"), shown("b", "x")}, texts("x"), `"b" "x" "a" "x" "b" "x"`, api.OK},
		// Any path, and any dot, is taken as it is.
		{[]Shown{shown("", "x"), shown("/", "y"), {Path: "a~", Dot: api.Dot{Replica: -1}, Sum: sha.Sum([]byte("x")), Size: 1}}, texts("x", "y"), `"" "x" "/" "y" "a~" "x"`, api.OK},
		// An empty file needs an empty blob.
		{[]Shown{shown("a", "")}, texts("x", ""), `"a" ""`, api.OK},
		{[]Shown{shown("a", "")}, [][]byte{nil}, `"a" ""`, api.OK},
		{[]Shown{shown("a", "")}, nil, "", api.ErrNone},
		{[]Shown{shown("a", "")}, texts("x"), "", api.ErrNone},
		// Of which none fits, wherever it stands.
		{[]Shown{shown("a", "x")}, nil, "", api.ErrNone},
		{[]Shown{shown("a", "x"), shown("b", "y"), shown("c", "z")}, texts("y", "z"), "", api.ErrNone},
		{[]Shown{shown("a", "x"), shown("b", "y"), shown("c", "z")}, texts("x", "z"), "", api.ErrNone},
		{[]Shown{shown("a", "x"), shown("b", "y"), shown("c", "z")}, texts("x", "y"), "", api.ErrNone},
		{[]Shown{longer}, texts("x", "xx"), "", api.ErrNone},
		{[]Shown{longer, shown("b", "xx")}, texts("x", "xx"), "", api.ErrNone},
		{[]Shown{shown("b", "x"), longer}, texts("x", "xx"), "", api.ErrNone},
		{[]Shown{negative}, texts("", "x"), "", api.ErrNone},
		{[]Shown{negative, shown("b", "")}, texts("", "x"), "", api.ErrNone},
		{[]Shown{{}}, texts(""), "", api.ErrNone},
		{[]Shown{{Path: "a", Size: 1}}, texts("x"), "", api.ErrNone},
	} {
		files, e := Tree(c.l, c.blobs)
		got := strings.TrimSpace(strings.ReplaceAll(toldFiles(files), "\n", " "))
		tells(t, got, c.want, "Tree(%v, %q)", c.l, c.blobs)
		tells(t, e, c.e, "the error of Tree(%v, %q)", c.l, c.blobs)
		tells(t, len(files) == 0 || e == api.OK, true, "whether there is nothing beside an error of Tree(%v, %q)", c.l, c.blobs)
	}
}

func TestP14_2(t *testing.T) {
	c := chain(127)
	errors := map[api.Errno]int{}
	for range 4000 {
		contents := texts("", "\x00", "x", "y", "xy", "yx", "xyz", strings.Repeat("x", 64))
		var l []Shown
		for range c.below(6) {
			data := of(&c, contents)
			s := Shown{Path: of(&c, names), Dot: api.Dot{Replica: c.below(3), Seq: 1}, Sum: sha.Sum(data), Size: len(data)}
			switch c.below(40) {
			case 0:
				s.Size += c.below(3) - 1
			case 1:
				s.Sum[c.below(32)] ^= 128
			}
			l = append(l, s)
		}
		blobs := some(&c, contents, c.below(40))
		got, gotError := Tree(l, blobs)
		want, wantError := plainTree(l, blobs)
		tells(t, toldFiles(got), toldFiles(want), "Tree(%v, %q)", l, blobs)
		tells(t, gotError, wantError, "the error of Tree(%v, %q)", l, blobs)
		errors[gotError]++
		for _, s := range l {
			for _, data := range contents {
				tells(t, Fits(s, data), plainFits(s, data), "Fits(%v, %q)", s, data)
			}
		}
	}
	if errors[api.OK] < 1000 || errors[api.ErrNone] < 1000 {
		t.Errorf("too few of a kind: %v", errors)
	}
}

// apart holds of heads that each Put is shown once, at a path of its own, and that none of these lies under another one.
func apart(t *testing.T, h []api.Event) {
	t.Helper()
	tells(t, heads.May(h), true, "heads.May(%v)", h)
	l := View(h)
	is(t, l, plainView(h), "View(%v)", h)
	shownAt, contents := map[api.Dot]Shown{}, [][]byte{}
	for i, s := range l {
		shownAt[s.Dot] = s
		contents = append(contents, fmt.Appendf(nil, "%d-%d", s.Dot.Replica, s.Dot.Seq))
		tells(t, path.May(s.Path), true, "path.May(%q)", s.Path)
		if i > 0 && l[i-1].Path >= s.Path {
			t.Fatalf("%q stands behind %q, of %v", s.Path, l[i-1].Path, h)
		}
		for _, other := range l {
			tells(t, strings.HasPrefix(s.Path, other.Path+"/"), false, "whether %q lies under %q, of %v", s.Path, other.Path, h)
		}
	}
	puts := 0
	for _, e := range h {
		if e.Kind != api.Put {
			continue
		}
		puts++
		s, found := shownAt[e.Dot]
		tells(t, found, true, "whether %v is shown, of %v", e, h)
		tells(t, s.Path == e.Path || s.Path == path.Copy(e.Path, e.Dot), true, "whether %q is the path, or the copy, of %v", s.Path, e)
		tells(t, s, as(e, s.Path), "what is shown of %v", e)
	}
	tells(t, len(l), puts, "the count of what is shown, of %v", h)
	slices.Reverse(contents)
	files, e := Tree(l, contents)
	tells(t, e, api.OK, "the error of Tree, of %v", h)
	tells(t, len(files), puts, "the count of files, of %v", h)
	for i, f := range files {
		tells(t, f.Path, l[i].Path, "the path at %d, of %v", i, h)
		tells(t, Fits(l[i], f.Data), true, "whether %q fits, of %v", f.Data, h)
	}
}

// TestP14_3 has the heads of histories, of 1 to 32 replicas, and of parts of them.
func TestP14_3(t *testing.T) {
	c := chain(131)
	for replicas := 1; replicas <= 32; replicas++ {
		for range 12 {
			all := history(t, &c, replicas, 70, names[:1+c.below(len(names))]...)
			apart(t, heads.Join(nil, all))
			for range 4 {
				apart(t, heads.Join(nil, some(&c, all, c.below(40))))
			}
		}
	}
}

// TestP14_3Longest has paths as long as users' may be, deep and flat, of which copies are the longest that are paths.
func TestP14_3Longest(t *testing.T) {
	flat := strings.Repeat("x", 83)
	deep := strings.Repeat("d/", 58) + flat
	wide := strings.Repeat("w", 100) + "/" + flat
	var h []api.Event
	for i, p := range []string{flat, deep, strings.TrimSuffix(deep, "/"+flat), wide, flat + "/" + flat} {
		tells(t, path.Own(p), true, "path.Own(%q)", p)
		for replica := range 32 {
			seq := int64(1<<40 - i)
			e := put(replica, seq, p)
			e.Deps = api.Vec{{Replica: replica, Seq: seq - 1}}
			h = append(h, e)
		}
	}
	slices.SortFunc(h, event.Compare)
	apart(t, h)
	l := View(h)
	tells(t, len(l), 160, "the count of what is shown")
	tells(t, len(slices.DeleteFunc(l, func(s Shown) bool { return strings.Contains(s.Path, "~") })), 3, "the count of paths that aren't copies'")
}

// TestR2NilAndEmpty holds that nothing is nothing, whichever way.
func TestR2NilAndEmpty(t *testing.T) {
	for _, h := range [][]api.Event{nil, {}, make([]api.Event, 0, 9), []api.Event{put(0, 1, "a")}[:0]} {
		is(t, View(h), nil, "View of none")
	}
	for _, l := range [][]Shown{nil, {}, make([]Shown, 0, 9), []Shown{shown("a", "x")}[:0]} {
		s, found := Main(l, "")
		tells(t, s, Shown{}, "Main of none")
		tells(t, found, false, "whether Main of none found one")
		for _, blobs := range [][][]byte{nil, {}, {nil}, {{}}, texts("x")} {
			files, e := Tree(l, blobs)
			tells(t, len(files), 0, "the count of Tree of none")
			tells(t, e, api.OK, "the error of Tree of none")
		}
	}
	a := shown("a", "")
	for _, data := range [][]byte{nil, {}, make([]byte, 0, 9), []byte("x")[:0]} {
		tells(t, Fits(a, data), true, "Fits of nothing")
		files, e := Tree([]Shown{a, a}, [][]byte{data})
		tells(t, toldFiles(files), "\"a\" \"\"\n\"a\" \"\"\n", "Tree of empty files")
		tells(t, e, api.OK, "the error of Tree of empty files")
	}
	for _, blobs := range [][][]byte{nil, {}, make([][]byte, 0, 9), texts("")[:0]} {
		_, e := Tree([]Shown{a}, blobs)
		tells(t, e, api.ErrNone, "the error of Tree of no blobs")
	}
	e, f := put(0, 1, "a"), put(0, 1, "a")
	e.Deps, f.Deps = nil, api.Vec{}
	is(t, View([]api.Event{e}), View([]api.Event{f}), "View of no dots")
}

// TestR3NothingShared holds that what is handed in stays as it is, room behind included, and that changing what is told changes nothing else.
func TestR3NothingShared(t *testing.T) {
	room := []api.Event{put(3, 1, "b"), put(0, 1, "a"), del(1, 1, "a"), put(2, 1, "a/b"), put(0, 2, "behind")}
	room[0].Deps = api.Vec{{Replica: 9, Seq: 9}, {Replica: 8, Seq: 8}}[:1]
	h, was := room[:4], fmt.Sprint(room, room[0].Deps[:2])
	one, other := View(h), View(h)
	wasShown := told(other)
	for i := range one[:cap(one)] {
		one[:cap(one)][i] = Shown{Path: "spoilt"}
	}
	tells(t, told(other), wasShown, "View, with another one of its answers spoilt")
	tells(t, told(View(h)), wasShown, "View, behind that")
	tells(t, fmt.Sprint(room, room[0].Deps[:2]), was, "what was handed in to View")

	l, blobs := append(other, shown("a", "x"), shown("b", "x"), shown("c", "")), texts("3-1", "0-1", "2-1", "x", "", "behind")
	for i, b := range blobs {
		blobs[i] = append(b, "behind"...)[:len(b)]
	}
	toldIn := func() string {
		all := told(l[:cap(l)])
		for _, b := range blobs {
			all += fmt.Sprintf("%q\n", b[:len(b)+6])
		}
		return all
	}
	wasIn := toldIn()
	files, e := Tree(l[:6], blobs[:5])
	tells(t, e, api.OK, "the error of Tree")
	again, _ := Tree(l[:6], blobs[:5])
	wasTold := toldFiles(files)
	for i := range files {
		rest := toldFiles(files[i+1:])
		data := files[i].Data[:cap(files[i].Data)]
		for j := range data {
			data[j] = '!'
		}
		tells(t, toldFiles(files[i+1:]), rest, "the files behind one whose bytes are spoilt")
	}
	for i := range files[:cap(files)] {
		files[:cap(files)][i] = api.File{Path: "spoilt"}
	}
	tells(t, toldFiles(again), wasTold, "Tree, with another one of its answers spoilt")
	Main(l, "a")
	Fits(l[0], blobs[0])
	_, e = Tree(l[:6], blobs[:3])
	tells(t, e, api.ErrNone, "the error of Tree without some")
	tells(t, toldIn(), wasIn, "what was handed in to Tree, Main and Fits")
	for i := range blobs {
		blobs[i][0:1][0] = '!'
	}
	tells(t, toldFiles(again), wasTold, "Tree's answer, with the blobs spoilt")
}

// TestR4SameAgain holds that what is told is the same each time, with many paths in the maps.
func TestR4SameAgain(t *testing.T) {
	c := chain(137)
	h := history(t, &c, 9, 500, names...)
	l := View(h)
	for range 20 {
		is(t, View(h), l, "View, again")
	}
}

// TestP1Many has many events, long paths, and many contents of one size: calls end, and soon.
func TestP1Many(t *testing.T) {
	const n = 1 << 16
	var h []api.Event
	for i := range n {
		h = append(h, api.Event{Dot: api.Dot{Replica: i % 32, Seq: int64(i) + 1}, Kind: api.Put, Path: fmt.Sprintf("%05d", (n-i)/2)})
	}
	l := View(h)
	tells(t, len(l), n, "the count of many")
	_, found := Main(l, "99999")
	tells(t, found, false, "whether Main of many found one")
	for i := range h {
		h[i].Path = "a"
	}
	l = View(h)
	tells(t, len(l), n, "the count of many at a path")
	tells(t, l[0].Dot, api.Dot{Replica: 31, Seq: n}, "the dot at a path of many")

	slashes := strings.Repeat("/", 1<<20)
	l = View([]api.Event{put(0, 1, slashes), put(0, 2, slashes[:1<<19]), put(0, 3, slashes[1:]), put(0, 4, slashes+"x")})
	tells(t, len(l), 4, "the count of long paths")
	tells(t, strings.Count(told(l), "~"), 2, "the count of copies of long paths")

	l = nil
	var blobs [][]byte
	for i := range 500 {
		data := append(bytes.Repeat([]byte{'x'}, 1<<14), byte(i), byte(i>>8))
		l, blobs = append(l, Shown{Sum: sha.Sum(data), Size: len(data)}), append(blobs, data)
	}
	slices.Reverse(blobs)
	files, e := Tree(l, blobs)
	tells(t, e, api.OK, "the error of Tree of many")
	tells(t, len(files), 500, "the count of files of many")
	l = nil
	for range n {
		l = append(l, shown("a", "x"))
	}
	files, e = Tree(l, slices.Concat(blobs, texts("x")))
	tells(t, e, api.OK, "the error of Tree of many alike")
	tells(t, len(files), n, "the count of files of many alike")
}
