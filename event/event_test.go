package event

import (
	"bytes"
	"fmt"
	"math"
	"slices"
	"strconv"
	"strings"
	"testing"

	"bindle/api"
	"bindle/path"
	"bindle/vec"
)

// chain tells numbers of a fixed rule, one after the other.
type chain uint64

func (c *chain) word() uint64 {
	*c = *c*6364136223846793005 + 1442695040888963407
	return uint64(*c) ^ uint64(*c)>>33
}

// below is one of the fixed rule, from 0 to n-1.
func (c *chain) below(n int) int {
	return int(c.word() >> 9 % uint64(n))
}

// of is one of l.
func of[T any](c *chain, l []T) T {
	return l[c.below(len(l))]
}

// The numbers near to the limits, and such as wrap round to those within if they are cut to fewer bits.
var (
	oddReplicas = []int{math.MinInt, -1 << 32, -32, -1, 32, 33, 64, 256, 1 << 32, 1<<32 + 5, math.MaxInt}
	oddSeqs     = []int64{math.MinInt64, -1 << 40, -1, 0, 1<<40 + 1, 1 << 41, 1<<62 + 1, math.MaxInt64}
	goodSeqs    = []int64{1, 2, 3, 9, 10, 11, 1<<32 - 1, 1 << 32, 1<<32 + 1, 1<<40 - 1, 1 << 40}
	oddKinds    = []int{math.MinInt, -1 << 32, -1, 0, 3, 4, 256 + 1, 256 + 2, 1<<32 + 1, 1<<32 + 2, math.MaxInt}
	goodSizes   = []int{0, 1, 2, 9, 10, 255, 256, 512, 32767, 32768, 65535, 65536}
	oddSizes    = []int{math.MinInt, math.MinInt + 5, -1 << 32, -65536, -1, 65537, 1 << 17, 1 << 31, 1 << 32, 1<<32 + 5, math.MaxInt}
)

// long is so many bytes of a path, in parts of 9 bytes.
func long(n int) string {
	return strings.Repeat("abcdefgh/", n/9+1)[:n-1] + "z"
}

// The paths that a user has, and such as none has. Of a name of 83 bytes the longest copy has 100; long(200) has one that can be split.
var (
	goodPaths = []string{"a", "b", "a/b", "a/b.c", "A-_+.9", "...", "put", "del", "-", "0", strings.Repeat("x", 83), strings.Repeat("0", 64), long(150), long(199), long(200), strings.Repeat("p", 99) + "/" + strings.Repeat("n", 83)}
	oddPaths  = []string{"", " ", ".", "..", "/", "/a", "a/", "a//b", "a/../b", "a~b", "a~0-1", "~", "a b", " a", "a ", "a\n", "a\x00", "a\tb", "\xff", "\u00e4", "a:b", "a,b", strings.Repeat("x", 84), strings.Repeat("x", 100), strings.Repeat("x", 101), long(201), strings.Repeat("p", 100) + "/" + strings.Repeat("n", 84), long(1 << 20)}
)

// digests is that of nothing, and such as differ from it at one place, and others.
func digests() []api.Digest {
	l := []api.Digest{{}}
	for i := range 32 {
		for _, b := range []byte{1, 128, 255} {
			var d api.Digest
			d[i] = b
			l = append(l, d)
		}
	}
	c := chain(3)
	for range 40 {
		var d api.Digest
		for i := range d {
			d[i] = byte(c.below(256))
		}
		l = append(l, d)
	}
	return l
}

// depsOf is a vector of the fixed rule, that knows of replica just as many as seq.
func depsOf(c *chain, replica int, seq int64) api.Vec {
	v := api.Vec{}
	often := 1 + c.below(12)
	for r := range 32 {
		if r == replica && seq > 0 {
			v = append(v, api.Dot{Replica: r, Seq: seq})
		}
		if r != replica && c.below(often) == 0 {
			v = append(v, api.Dot{Replica: r, Seq: of(c, goodSeqs)})
		}
	}
	return v
}

// oddDeps is dots of the fixed rule, in any order, some of one replica, some that may not be.
func oddDeps(c *chain) api.Vec {
	v := api.Vec{}
	for range c.below(20) {
		d := api.Dot{Replica: c.below(8), Seq: of(c, goodSeqs)}
		switch c.below(6) {
		case 0:
			d.Replica = of(c, oddReplicas)
		case 1:
			d.Seq = of(c, oddSeqs)
		}
		v = append(v, d)
	}
	return v
}

// good is an event of the fixed rule that may be.
func good(c *chain) api.Event {
	e := api.Event{Dot: api.Dot{Replica: c.below(32), Seq: of(c, goodSeqs)}, Path: of(c, goodPaths), Kind: api.Delete}
	e.Deps = depsOf(c, e.Dot.Replica, e.Dot.Seq-1)
	if c.below(3) > 0 {
		e.Kind, e.Sum, e.Size = api.Put, of(c, digests()), of(c, goodSizes)
	}
	return e
}

// odd is an event of the fixed rule that may be or not: one or more fields are of any kind.
func odd(c *chain) api.Event {
	e := good(c)
	for range c.below(3) {
		switch c.below(7) {
		case 0:
			e.Dot.Replica = of(c, append([]int{0, 1, 31}, oddReplicas...))
		case 1:
			e.Dot.Seq = of(c, append(oddSeqs, goodSeqs...))
		case 2:
			e.Deps = oddDeps(c)
		case 3:
			e.Kind = of(c, append([]int{api.Put, api.Delete}, oddKinds...))
		case 4:
			e.Path = of(c, append(oddPaths, goodPaths...))
		case 5:
			e.Sum = of(c, digests())
		case 6:
			e.Size = of(c, append(oddSizes, goodSizes...))
		}
	}
	return e
}

// events is all kinds, the zero one among them.
func events() []api.Event {
	l := []api.Event{{}, {Kind: api.Put}, {Kind: api.Delete}, {Kind: api.Delete, Path: "a"}}
	c := chain(59)
	for range 400 {
		l = append(l, good(&c), odd(&c))
	}
	return l
}

// plainDot tells whether d may be, told by the document's words.
func plainDot(d api.Dot) bool {
	return d.Replica >= 0 && d.Replica <= 31 && d.Seq >= 1 && d.Seq <= 1<<40
}

// plainMay tells whether e may be, told by the chapter's words.
func plainMay(e api.Event) bool {
	known := int64(0)
	for i, d := range e.Deps {
		if !plainDot(d) || i > 0 && e.Deps[i-1].Replica >= d.Replica {
			return false
		}
		if d.Replica == e.Dot.Replica {
			known = d.Seq
		}
	}
	if !plainDot(e.Dot) || known != e.Dot.Seq-1 || !path.Own(e.Path) {
		return false
	}
	if e.Kind == 1 {
		return e.Size >= 0 && e.Size <= 65536
	}
	return e.Kind == 2 && e.Size == 0 && bytes.Equal(e.Sum[:], make([]byte, 32))
}

// plainLine is the line of e, told by the standard library.
func plainLine(e api.Event) string {
	deps := ""
	for _, d := range e.Deps {
		deps += fmt.Sprintf(",%d:%d", d.Replica, d.Seq)
	}
	if deps == "" {
		deps = ",-"
	}
	if e.Kind == 1 {
		return fmt.Sprintf("put %d:%d %s %s %x %d", e.Dot.Replica, e.Dot.Seq, deps[1:], e.Path, e.Sum[:], e.Size)
	}
	return fmt.Sprintf("del %d:%d %s %s", e.Dot.Replica, e.Dot.Seq, deps[1:], e.Path)
}

// plainRead is the dot of such a text: whatever the standard library reads.
func plainRead(s string) api.Dot {
	first, second, _ := strings.Cut(s, ":")
	replica, _ := strconv.Atoi(first)
	seq, _ := strconv.ParseInt(second, 10, 64)
	return api.Dot{Replica: replica, Seq: seq}
}

// plainParse is the event of which s is the line: whatever the standard library reads, if it may be and has that line.
func plainParse(s string) (api.Event, bool) {
	words := strings.Split(s, " ")
	if len(words) != 4 && len(words) != 6 {
		return api.Event{}, false
	}
	e := api.Event{Dot: plainRead(words[1]), Path: words[3], Kind: 2}
	if words[2] != "-" {
		for _, text := range strings.Split(words[2], ",") {
			e.Deps = append(e.Deps, plainRead(text))
		}
	}
	if len(words) == 6 {
		e.Kind = 1
		var sum []byte
		fmt.Sscanf(words[4], "%64x", &sum)
		copy(e.Sum[:], sum)
		e.Size, _ = strconv.Atoi(words[5])
	}
	return e, plainMay(e) && plainLine(e) == s
}

// tells holds that got is want.
func tells[T comparable](t *testing.T, got, want T, what string, args ...any) {
	t.Helper()
	if got != want {
		t.Fatalf("%s = %v, not %v", fmt.Sprintf(what, args...), got, want)
	}
}

// told is all of e, so that two are told alike if, and only if, all their fields are the same.
func told(e api.Event) string {
	return fmt.Sprintf("%d %d %d %q %x %d", e.Dot, []api.Dot(e.Deps), e.Kind, e.Path, e.Sum, e.Size)
}

// noLine holds that e may not be, and has no line.
func noLine(t *testing.T, e api.Event) {
	t.Helper()
	if May(e) {
		t.Fatalf("%.999v may be", e)
	}
	if s, failed := Line(e); s != "" || failed != api.ErrArg {
		t.Fatalf("Line(%.999v) = %.99q, %d", e, s, failed)
	}
}

// noEvent holds that s is the line of none.
func noEvent(t *testing.T, s string) {
	t.Helper()
	if e, failed := Parse(s); told(e) != told(api.Event{}) || failed != api.ErrForm {
		t.Fatalf("Parse(%.999q) = %v, %d", s, e, failed)
	}
}

// parsed holds that e may be, that s is its line, and that e is the event of s.
func parsed(t *testing.T, s string, e api.Event) {
	t.Helper()
	if !May(e) {
		t.Fatalf("%v may not be", e)
	}
	if line, failed := Line(e); line != s || failed != api.OK {
		t.Fatalf("Line(%v) = %q, %d, not %q", e, line, failed, s)
	}
	got, failed := Parse(s)
	if told(got) != told(e) || failed != api.OK || !Same(got, e) || !Same(e, got) {
		t.Fatalf("Parse(%q) = %v, %d, not %v", s, got, failed, e)
	}
}

// holds holds that s is parsed as the chapter's words have it, and tells whether it is an event's line.
func holds(t *testing.T, s string) bool {
	t.Helper()
	e, ok := plainParse(s)
	if ok {
		parsed(t, s, e)
	} else {
		noEvent(t, s)
	}
	return ok
}

// first is the chapter's example: the first event of replica 0, a file a of three bytes.
func first() api.Event {
	return api.Event{Dot: api.Dot{Replica: 0, Seq: 1}, Kind: api.Put, Path: "a", Sum: api.Digest{0: 0xba, 31: 0xad}, Size: 3}
}

// gone is a delete of one who knew events of three replicas.
func gone() api.Event {
	return api.Event{Dot: api.Dot{Replica: 9, Seq: 11}, Deps: api.Vec{{Replica: 0, Seq: 1}, {Replica: 9, Seq: 10}, {Replica: 31, Seq: 1 << 40}}, Kind: api.Delete, Path: "a/b.c"}
}

// fault makes an event that may be one that may not.
type fault struct {
	name string
	make func(e *api.Event)
}

// ofDeps is the fault of deps that are made of those that were.
func ofDeps(name string, made func(e *api.Event) api.Vec) fault {
	return fault{name, func(e *api.Event) { e.Deps = made(e) }}
}

// faults of events at the dot 9:11, of Deps 0:1,9:10,31:1099511627776, of both kinds.
func faults() []fault {
	l := []fault{
		{"a dot of another replica", func(e *api.Event) { e.Dot.Replica = 8 }},
		{"a dot of a replica that is known", func(e *api.Event) { e.Dot.Replica = 0 }},
		{"the dot that is known", func(e *api.Event) { e.Dot.Seq = 10 }},
		{"a dot that is known", func(e *api.Event) { e.Dot.Seq = 1 }},
		{"a dot beyond the next", func(e *api.Event) { e.Dot.Seq = 12 }},
		ofDeps("no deps", func(e *api.Event) api.Vec { return nil }),
		ofDeps("deps of others", func(e *api.Event) api.Vec { return api.Vec{e.Deps[0], e.Deps[2]} }),
		ofDeps("deps with a dot too few", func(e *api.Event) api.Vec { return vecWith(e.Deps, 1, 9) }),
		ofDeps("deps that know the event", func(e *api.Event) api.Vec { return vecWith(e.Deps, 1, 11) }),
		ofDeps("deps that know more", func(e *api.Event) api.Vec { return vecWith(e.Deps, 1, 1<<40) }),
		ofDeps("deps with a number 0", func(e *api.Event) api.Vec { return vecWith(e.Deps, 0, 0) }),
		ofDeps("deps with a number beyond all", func(e *api.Event) api.Vec { return vecWith(e.Deps, 2, 1<<40+1) }),
		ofDeps("falling deps", func(e *api.Event) api.Vec { return api.Vec{e.Deps[2], e.Deps[1], e.Deps[0]} }),
		ofDeps("doubled deps", func(e *api.Event) api.Vec { return api.Vec{e.Deps[0], e.Deps[1], e.Deps[1]} }),
		ofDeps("two deps of one replica", func(e *api.Event) api.Vec { return api.Vec{{Replica: 9, Seq: 9}, e.Deps[1]} }),
		ofDeps("deps of replica 32", func(e *api.Event) api.Vec { return append(slices.Clone(e.Deps), api.Dot{Replica: 32, Seq: 1}) }),
		ofDeps("deps of replica -1", func(e *api.Event) api.Vec { return append(api.Vec{{Replica: -1, Seq: 1}}, e.Deps...) }),
	}
	for _, replica := range oddReplicas {
		l = append(l, fault{fmt.Sprint("replica ", replica), func(e *api.Event) { e.Dot.Replica = replica }})
	}
	for _, seq := range oddSeqs {
		l = append(l, fault{fmt.Sprint("number ", seq), func(e *api.Event) { e.Dot.Seq = seq }})
	}
	for _, kind := range oddKinds {
		l = append(l, fault{fmt.Sprint("kind ", kind), func(e *api.Event) { e.Kind = kind }})
	}
	for _, size := range oddSizes {
		l = append(l, fault{fmt.Sprint("size ", size), func(e *api.Event) { e.Size = size }})
	}
	for _, p := range oddPaths {
		l = append(l, fault{fmt.Sprintf("path %.99q", p), func(e *api.Event) { e.Path = p }})
	}
	return l
}

// vecWith is v, with that number at that place.
func vecWith(v api.Vec, i int, seq int64) api.Vec {
	v = slices.Clone(v)
	v[i].Seq = seq
	return v
}

func TestP12_1MayExamples(t *testing.T) {
	put := gone()
	put.Kind, put.Size = api.Put, 5
	empty := put
	empty.Size = 0
	last := api.Event{Dot: api.Dot{Replica: 31, Seq: 1 << 40}, Deps: api.Vec{{Replica: 31, Seq: 1<<40 - 1}}, Kind: api.Put, Path: long(200), Sum: api.Digest{7}, Size: 65536}
	for _, e := range []api.Event{first(), gone(), put, empty, last} {
		tells(t, May(e), true, "May(%v)", e)
	}
	tells(t, May(api.Event{}), false, "May of the zero event")
	for _, f := range faults() {
		for _, e := range []api.Event{gone(), put, empty} {
			f.make(&e)
			tells(t, May(e), false, "May of an event with %s", f.name)
			noLine(t, e)
		}
	}
}

// TestP12_1MayDelete holds that of a delete there is neither a size nor any byte of a digest, and of a put any.
func TestP12_1MayDelete(t *testing.T) {
	for _, sum := range digests() {
		for _, size := range append(goodSizes, oddSizes...) {
			e := gone()
			e.Sum, e.Size = sum, size
			tells(t, May(e), size == 0 && sum == api.Digest{}, "May(%v)", e)
			e.Kind = api.Put
			tells(t, May(e), size >= 0 && size <= 65536, "May(%v)", e)
		}
	}
}

func TestP12_1MayPaths(t *testing.T) {
	for _, e := range []api.Event{first(), gone()} {
		for _, e.Path = range goodPaths {
			tells(t, May(e), true, "May(%v)", e)
		}
		for _, e.Path = range oddPaths {
			tells(t, May(e), false, "May(%v)", e)
		}
		for c := range 256 {
			e.Path = "a" + string([]byte{byte(c)}) + "b"
			tells(t, May(e), path.Own(e.Path), "May(%v)", e)
		}
	}
}

// TestP12_1MayDeps holds of each replica and many numbers that just the dots below are known.
func TestP12_1MayDeps(t *testing.T) {
	c := chain(61)
	for replica := range 32 {
		for _, seq := range goodSeqs {
			for _, known := range append([]int64{0, seq - 2, seq - 1, seq, seq + 1}, goodSeqs...) {
				if known < 0 || known > 1<<40 {
					continue
				}
				e := api.Event{Dot: api.Dot{Replica: replica, Seq: seq}, Deps: depsOf(&c, replica, known), Kind: api.Delete, Path: "a"}
				tells(t, May(e), known == seq-1, "May(%v)", e)
			}
		}
	}
}

func TestP12_1May(t *testing.T) {
	may := 0
	all := events()
	for _, e := range all {
		tells(t, May(e), plainMay(e), "May(%v)", e)
		if May(e) {
			may++
		} else {
			noLine(t, e)
		}
	}
	if may < len(all)/2 || may > len(all)-99 {
		t.Fatalf("%d of %d may be", may, len(all))
	}
}

func TestP12_1KnowsExamples(t *testing.T) {
	e := gone()
	for _, c := range []struct {
		d    api.Dot
		want bool
	}{
		{api.Dot{Replica: 0, Seq: 1}, true},
		{api.Dot{Replica: 0, Seq: 2}, false},
		{api.Dot{Replica: 1, Seq: 1}, false},
		{api.Dot{Replica: 9, Seq: 1}, true},
		{api.Dot{Replica: 9, Seq: 10}, true},
		{api.Dot{Replica: 9, Seq: 11}, false},
		{api.Dot{Replica: 30, Seq: 1}, false},
		{api.Dot{Replica: 31, Seq: 1}, true},
		{api.Dot{Replica: 31, Seq: 1 << 40}, true},
		{api.Dot{Replica: 31, Seq: 1<<40 + 1}, false},
		{api.Dot{Replica: 0, Seq: 0}, false},
		{api.Dot{Replica: 9, Seq: -1}, false},
		{api.Dot{Replica: 32, Seq: 1}, false},
		{api.Dot{Replica: -1, Seq: 1}, false},
		{api.Dot{Replica: 1<<32 + 9, Seq: 1}, false},
	} {
		// Nothing but the one's Deps and the other one's Dot is asked.
		for _, f := range []api.Event{{Dot: c.d}, {Dot: c.d, Path: "a/b.c", Kind: api.Put}, {Dot: c.d, Deps: e.Deps, Size: -1}} {
			tells(t, Knows(e, f), c.want, "Knows(%v, %v)", e, f)
			tells(t, Knows(api.Event{Deps: e.Deps, Dot: c.d}, f), c.want, "Knows of another one, %v, of %v", e, f)
			tells(t, Knows(api.Event{}, f), false, "Knows of the zero event, of %v", f)
		}
	}
}

// TestP12_1Knows has events that may be and others, their Deps in any order.
func TestP12_1Knows(t *testing.T) {
	all := events()
	c := chain(67)
	for range 20000 {
		e, f := of(&c, all), of(&c, all)
		want := false
		for _, d := range e.Deps {
			if plainDot(d) && plainDot(f.Dot) && d.Replica == f.Dot.Replica && f.Dot.Seq <= d.Seq {
				want = true
			}
		}
		if Knows(e, f) != want {
			t.Fatalf("Knows(%v, %v) isn't %t", e, f, want)
		}
	}
}

// TestP12_1CompareOrder has events in rising order, held against each other: the path goes ahead of the dot, byte by byte.
func TestP12_1CompareOrder(t *testing.T) {
	dots := []api.Dot{{Replica: math.MinInt, Seq: 9}, {Replica: -1, Seq: 9}, {Replica: 0, Seq: math.MinInt64}, {Replica: 0, Seq: -1}, {Replica: 0, Seq: 0}, {Replica: 0, Seq: 1}, {Replica: 0, Seq: 2}, {Replica: 0, Seq: 10}, {Replica: 0, Seq: 1 << 40}, {Replica: 0, Seq: math.MaxInt64}, {Replica: 1, Seq: 1}, {Replica: 9, Seq: 1}, {Replica: 10, Seq: 1}, {Replica: 31, Seq: 1}, {Replica: math.MaxInt, Seq: 1}}
	var l []api.Event
	for _, p := range []string{"", "\x00", "A", "B", "a", "a\x00", "a ", "a-b", "a.b", "a/b", "a0", "aB", "ab", "a~0-1", "b", "\x7f", "\x80", "\u00e4", "\uffff", "\U0001f600", "\xff"} {
		for _, d := range dots {
			l = append(l, api.Event{Path: p, Dot: d})
		}
	}
	c := chain(71)
	for i := range l {
		for j := range l {
			e, f := l[i], l[j]
			// Nothing else is asked.
			if c.below(2) == 0 {
				e.Deps, e.Kind, e.Size, e.Sum = api.Vec{{Replica: 1, Seq: 1}}, api.Put, 9, api.Digest{9}
			}
			if c.below(2) == 0 {
				f.Deps, f.Kind, f.Size, f.Sum = api.Vec{{Replica: 0, Seq: 1}}, api.Delete, -9, api.Digest{3}
			}
			want := 0
			if i < j {
				want = -1
			} else if i > j {
				want = 1
			}
			if Compare(e, f) != want {
				t.Fatalf("Compare(%v, %v) = %d, not %d", e, f, Compare(e, f), want)
			}
		}
	}
}

// others is events each of which has one field other than e, by a byte, a bit, or a dot.
func others(e api.Event) []api.Event {
	var l []api.Event
	change := func(made func(f *api.Event)) {
		f := e
		f.Deps = slices.Clone(e.Deps)
		made(&f)
		l = append(l, f)
	}
	for bit := range 64 {
		change(func(f *api.Event) { f.Dot.Replica ^= 1 << bit })
		change(func(f *api.Event) { f.Dot.Seq ^= 1 << bit })
		change(func(f *api.Event) { f.Kind ^= 1 << bit })
		change(func(f *api.Event) { f.Size ^= 1 << bit })
		for i := range e.Deps {
			change(func(f *api.Event) { f.Deps[i].Replica ^= 1 << bit })
			change(func(f *api.Event) { f.Deps[i].Seq ^= 1 << bit })
		}
	}
	for bit := range 256 {
		change(func(f *api.Event) { f.Sum[bit/8] ^= 1 << (bit % 8) })
	}
	for i := range e.Path {
		change(func(f *api.Event) { f.Path = e.Path[:i] + "\x00" + e.Path[i+1:] })
		change(func(f *api.Event) { f.Path = e.Path[:i] })
	}
	for i := range e.Deps {
		change(func(f *api.Event) { f.Deps = slices.Delete(f.Deps, i, i+1) })
		change(func(f *api.Event) { f.Deps = slices.Insert(f.Deps, i, f.Deps[i]) })
		if i > 0 {
			change(func(f *api.Event) { f.Deps[0], f.Deps[i] = f.Deps[i], f.Deps[0] })
		}
	}
	change(func(f *api.Event) { f.Path += "\x00" })
	change(func(f *api.Event) { f.Path += "~" })
	change(func(f *api.Event) { f.Deps = append(f.Deps, api.Dot{}) })
	change(func(f *api.Event) { f.Deps = append(f.Deps, api.Dot{Replica: 31, Seq: 1}) })
	return l
}

func TestP12_1Same(t *testing.T) {
	c := chain(73)
	l := []api.Event{{}, first(), gone(), good(&c), good(&c), odd(&c), odd(&c)}
	for _, e := range l {
		same := e
		same.Deps = slices.Clone(e.Deps)
		same.Path = strings.Clone(e.Path)
		tells(t, Same(e, same), true, "Same(%v, %v)", e, same)
		tells(t, Same(e, e), true, "Same(%v, %v)", e, e)
		for _, f := range others(e) {
			if told(e) == told(f) {
				t.Fatalf("%v is no other one", f)
			}
			if Same(e, f) || Same(f, e) {
				t.Fatalf("%v and %v are the same", e, f)
			}
		}
	}
	all := events()
	for _, e := range all {
		for range 9 {
			f := of(&c, all)
			tells(t, Same(e, f), told(e) == told(f), "Same(%v, %v)", e, f)
		}
	}
}

func TestP12_2Examples(t *testing.T) {
	sum := "ba" + strings.Repeat("0", 60) + "ad"
	parsed(t, "put 0:1 - a "+sum+" 3", first())
	parsed(t, "del 9:11 0:1,9:10,31:1099511627776 a/b.c", gone())
	put := gone()
	put.Kind, put.Sum, put.Size = api.Put, first().Sum, 65536
	parsed(t, "put 9:11 0:1,9:10,31:1099511627776 a/b.c "+sum+" 65536", put)
	put.Sum, put.Size = api.Digest{}, 0
	parsed(t, "put 9:11 0:1,9:10,31:1099511627776 a/b.c "+strings.Repeat("0", 64)+" 0", put)
	parsed(t, "del 31:1 - del", api.Event{Dot: api.Dot{Replica: 31, Seq: 1}, Kind: api.Delete, Path: "del"})
	parsed(t, "del 31:1099511627776 31:1099511627775 -", api.Event{Dot: api.Dot{Replica: 31, Seq: 1 << 40}, Deps: api.Vec{{Replica: 31, Seq: 1<<40 - 1}}, Kind: api.Delete, Path: "-"})
	// The longest line: each replica is known, and each word is as long as it can be.
	full := api.Event{Dot: api.Dot{Replica: 31, Seq: 1 << 40}, Kind: api.Put, Path: long(200), Sum: api.Digest{31: 1}, Size: 65536}
	var texts []string
	for replica := range 31 {
		full.Deps = append(full.Deps, api.Dot{Replica: replica, Seq: 1 << 40})
		texts = append(texts, fmt.Sprint(replica, ":1099511627776"))
	}
	full.Deps = append(full.Deps, api.Dot{Replica: 31, Seq: 1<<40 - 1})
	parsed(t, "put 31:1099511627776 "+strings.Join(texts, ",")+",31:1099511627775 "+full.Path+" "+strings.Repeat("0", 63)+"1"+" 65536", full)
}

func TestP12_2ParseWrong(t *testing.T) {
	sum := strings.Repeat("0", 64)
	for _, s := range []string{
		"", " ", "  ", "   ", "     ", "      ", "put", "del", "put ", "del ", "put    ", "del   ", "put     ",
		"del 1:1", "del 1:1 ", "del 1:1 -", "del 1:1 - ", "del 1:1 a", "del 1:1  a", "del - a", "1:1 - a", "del 1:1 - a ", " del 1:1 - a", "del 1:1 - a  ", "del  1:1 - a", "del 1:1 -  a", "del 1:1 - a\n", "del 1:1 - a\x00", "\ufeffdel 1:1 - a", "del\t1:1\t-\ta", "del\u00a01:1 - a", "del 1:1 - a b", "del 1:1 - a b c", "del 1:1 - a b c d",
		"Del 1:1 - a", "DEL 1:1 - a", "delete 1:1 - a", "de 1:1 - a", "2 1:1 - a", "put 1:1 - a", "del 1:1 - a " + sum, "del 1:1 - a " + sum + " 0", "del 1:1 - a  ", "del 1:1 - a - 0", "del 1:1 - a " + sum + " ", "del 1:1 - a  0",
		"del 1:2 - a", "del 1:2 1:2 a", "del 1:2 1:3 a", "del 1:1 1:1 a", "del 1:3 1:1 a", "del 1:2 2:1 a", "del 1:2 0:1,2:1 a", "del 1:2 2:1,1:1 a", "del 1:2 1:1,1:1 a", "del 1:2 1:1, a", "del 1:2 ,1:1 a", "del 1:2 1:1,32:1 a", "del 1:2 1:01 a", "del 01:1 - a", "del 1:01 - a", "del 1:0 - a", "del 1 - a", "del 1:1: - a", "del 32:1 - a", "del -1:1 - a", "del +1:1 - a", "del 1:1 -- a", "del 1:1 1:0 a", "del 1:1 0 a", "del 1:1099511627777 1:1099511627776 a",
		"del 1:1 - /a", "del 1:1 - a/", "del 1:1 - ..", "del 1:1 - a~b", "del 1:1 - a~1-1", "del 1:1 - a:b", "del 1:1 - " + strings.Repeat("x", 84), "del 1:1 - " + long(201),
		"put 1:1 - a " + sum, "put 1:1 - a " + sum + " ", "put 1:1 - a 3", "put 1:1 - a  3", "put 1:1 - a 3 " + sum, "put 1:1 -  " + sum + " 3", "put 1:1 " + sum + " 3", "put 1:1 - a " + sum + "  3", "put 1:1 - a " + sum + " 3 ", "put 1:1 - a " + sum + " 3 3", "put 1:1 - a " + sum + " 3\n", " put 1:1 - a " + sum + " 3",
		"put 1:1 - a " + sum[1:] + " 3", "put 1:1 - a " + sum + "0 3", "put 1:1 - a " + sum[2:] + " 3", "put 1:1 - a " + sum + "00 3", "put 1:1 - a " + sum[1:] + "A 3", "put 1:1 - a " + sum[1:] + "g 3", "put 1:1 - a - 3", "put 1:1 - a 0x" + sum[2:] + " 3",
		"put 1:1 - a " + sum + " 03", "put 1:1 - a " + sum + " 00", "put 1:1 - a " + sum + " -0", "put 1:1 - a " + sum + " -1", "put 1:1 - a " + sum + " +3", "put 1:1 - a " + sum + " 65537", "put 1:1 - a " + sum + " 3.0", "put 1:1 - a " + sum + " 0x3", "put 1:1 - a " + sum + " 4294967299", "put 1:1 - a " + sum + " 18446744073709551619", "put 1:1 - a " + sum + " 9223372036854775808",
		"Put 1:1 - a " + sum + " 3", "PUT 1:1 - a " + sum + " 3", "puts 1:1 - a " + sum + " 3", "1 1:1 - a " + sum + " 3", "put 1:2 - a " + sum + " 3", "put 1:1 1:1 a " + sum + " 3", "put 1:1 - a~b " + sum + " 3",
		strings.Repeat(" ", 1<<20), strings.Repeat("put ", 1<<18), strings.Repeat("del 1:1 - a ", 1<<16), "del 1:1 - a" + strings.Repeat(" ", 1<<20), "del 1:2 1:1" + strings.Repeat(",2:1", 1<<18) + " a", "del 1:1 - " + strings.Repeat("a/", 1<<18) + "a", "put 1:1 - a " + strings.Repeat("0", 1<<20) + " 3", "put 1:1 - a " + sum + " " + strings.Repeat("3", 1<<20), "del " + strings.Repeat("1", 1<<20) + ":1 - a",
	} {
		noEvent(t, s)
	}
}

// TestP12_2ParseShort has all texts of up to six words, and lines with one word more.
func TestP12_2ParseShort(t *testing.T) {
	words := []string{"put", "del", "1:2", "1:1", "-", "a", strings.Repeat("0", 64), "0"}
	var lines []string
	level := []string{""}
	for range 6 {
		var next []string
		for _, s := range level {
			for _, word := range words {
				s := strings.TrimPrefix(s+" "+word, " ")
				next = append(next, s)
				if holds(t, s) {
					lines = append(lines, s)
				}
			}
		}
		level = next
	}
	// The dot 1:1 goes with -, the dot 1:2 with 1:1; all words but the dots are paths, of both kinds.
	tells(t, len(lines), 2*6*2, "the count of lines")
	for _, s := range lines {
		for _, word := range append(words, "", "b") {
			noEvent(t, s+" "+word)
			noEvent(t, word+" "+s)
		}
	}
}

// TestP12_2ParseBlanks has something else in the place of each blank.
func TestP12_2ParseBlanks(t *testing.T) {
	for _, e := range []api.Event{first(), gone()} {
		line, _ := Line(e)
		for i := range line {
			for _, other := range []string{"", "  ", "   ", "\t", "\n", "\r\n", "\v", "\f", "\x00", " \t", "\u00a0", "\u2003", ",", "_"} {
				if line[i] == ' ' {
					tells(t, holds(t, line[:i]+other+line[i+1:]), false, "whether %q is a line with %q at %d", line, other, i)
				}
			}
		}
	}
}

// TestP12_2ParseAnyByte has each byte at each place of lines, in place of what stands there, and between; and what is left without it.
func TestP12_2ParseAnyByte(t *testing.T) {
	for _, e := range []api.Event{first(), gone(), {Dot: api.Dot{Replica: 1, Seq: 1}, Kind: api.Delete, Path: "a"}} {
		s, _ := Line(e)
		for i := range len(s) + 1 {
			for c := range 256 {
				b := string([]byte{byte(c)})
				holds(t, s[:i]+b+s[i:])
				if i < len(s) {
					holds(t, s[:i]+b+s[i+1:])
				}
			}
			for j := i; j <= len(s); j++ {
				holds(t, s[:i]+s[j:])
				holds(t, s[:j]+s[i:])
				holds(t, s[i:j])
			}
		}
	}
}

// TestP12_3ThereAndBack has events of all kinds that may be.
func TestP12_3ThereAndBack(t *testing.T) {
	lines := map[string]string{}
	for _, e := range events() {
		if !plainMay(e) {
			noLine(t, e)
			continue
		}
		s := plainLine(e)
		parsed(t, s, e)
		if other, there := lines[s]; there && other != told(e) {
			t.Fatalf("%s and %s have the line %q", other, told(e), s)
		}
		lines[s] = told(e)
	}
	for _, sum := range digests() {
		for _, size := range goodSizes {
			e := first()
			e.Sum, e.Size = sum, size
			parsed(t, plainLine(e), e)
		}
	}
	for _, e := range []api.Event{first(), gone()} {
		for _, e.Path = range goodPaths {
			parsed(t, plainLine(e), e)
		}
	}
}

func TestP12_3NoneKnowsItself(t *testing.T) {
	for _, e := range events() {
		if May(e) {
			tells(t, Knows(e, e), false, "Knows(%v, itself)", e)
		}
	}
}

// TestP12_3NoneKnowEachOther makes histories: replicas make events of what they know, and tell each other some of it, or all.
func TestP12_3NoneKnowEachOther(t *testing.T) {
	c := chain(79)
	for replicas := 1; replicas <= 32; replicas++ {
		known := make([]api.Vec, replicas)
		var all []api.Event
		for range 80 {
			r, other := c.below(replicas), c.below(replicas)
			if c.below(2) == 0 {
				known[r] = vec.Join(known[r], known[other])
				continue
			}
			e := api.Event{Dot: api.Dot{Replica: r, Seq: vec.Get(known[r], r) + 1}, Deps: known[r], Kind: api.Delete, Path: of(&c, goodPaths)}
			tells(t, May(e), true, "May(%v)", e)
			known[r] = vec.With(known[r], e.Dot)
			all = append(all, e)
		}
		for i, e := range all {
			for _, f := range all[:i] {
				if Knows(f, e) {
					t.Fatalf("%v, the earlier one, knows %v", f, e)
				}
				if e.Dot.Replica == f.Dot.Replica && !Knows(e, f) {
					t.Fatalf("%v doesn't know its replica's earlier one %v", e, f)
				}
			}
			tells(t, Knows(e, e), false, "Knows(%v, itself)", e)
		}
	}
}

// TestP12_3KnowsOn holds that who knows an event of a history knows all that it knew.
func TestP12_3KnowsOn(t *testing.T) {
	a := api.Event{Dot: api.Dot{Replica: 0, Seq: 1}, Kind: api.Delete, Path: "a"}
	b := api.Event{Dot: api.Dot{Replica: 1, Seq: 1}, Deps: vec.With(a.Deps, a.Dot), Kind: api.Delete, Path: "a"}
	d := api.Event{Dot: api.Dot{Replica: 2, Seq: 1}, Deps: vec.With(b.Deps, b.Dot), Kind: api.Delete, Path: "a"}
	for i, e := range []api.Event{a, b, d} {
		for j, f := range []api.Event{a, b, d} {
			tells(t, Knows(e, f), j < i, "Knows(%v, %v)", e, f)
		}
	}
}

// TestR2NilAndEmpty holds that no dots are none, whichever way.
func TestR2NilAndEmpty(t *testing.T) {
	for _, none := range []api.Vec{nil, {}, make(api.Vec, 0, 9), gone().Deps[:0]} {
		e := first()
		e.Deps = none
		parsed(t, "put 0:1 - a ba"+strings.Repeat("0", 60)+"ad 3", e)
		tells(t, Same(e, first()), true, "Same with other none")
		tells(t, Same(first(), e), true, "Same with other none")
		tells(t, Knows(e, first()), false, "Knows of none")
		tells(t, Compare(e, first()), 0, "Compare with other none")
		tells(t, Same(e, gone()), false, "Same of none and some")
	}
}

// TestR3NothingShared holds that what is handed in stays as it is, its room behind included, and that changing what is told changes nothing else.
func TestR3NothingShared(t *testing.T) {
	for _, e := range events() {
		room := append(append(make(api.Vec, 0, len(e.Deps)+9), e.Deps...), api.Dot{Replica: 5, Seq: 5}, api.Dot{Replica: 6, Seq: 6})
		was := slices.Clone(room)
		e.Deps = room[:len(e.Deps)]
		before := told(e)
		May(e)
		Knows(e, e)
		Compare(e, e)
		Same(e, e)
		s, failed := Line(e)
		tells(t, told(e), before, "what was handed in")
		if !slices.Equal(room, was) {
			t.Fatalf("the room behind became %d, from %d", room, was)
		}
		if failed != api.OK {
			continue
		}
		one, _ := Parse(s)
		other, _ := Parse(s)
		for i := range one.Deps[:cap(one.Deps)] {
			one.Deps[:cap(one.Deps)][i] = api.Dot{Replica: -9, Seq: -9}
		}
		again, _ := Parse(s)
		tells(t, told(other), before, "what was parsed ahead of the change")
		tells(t, told(again), before, "what was parsed behind the change")
	}
}

// TestP1Many has more dots and longer paths than any event, which no call takes amiss.
func TestP1Many(t *testing.T) {
	e := gone()
	e.Deps = nil
	for i := range 1 << 20 {
		e.Deps = append(e.Deps, api.Dot{Replica: i - 5, Seq: int64(i)})
	}
	f := e
	f.Path = strings.Repeat("a/", 1<<20)
	for _, e := range []api.Event{e, f} {
		tells(t, May(e), false, "May")
		tells(t, Knows(e, gone()), true, "Knows")
		tells(t, Knows(e, api.Event{Dot: api.Dot{Replica: 9, Seq: 15}}), false, "Knows")
		_, failed := Line(e)
		tells(t, failed, api.ErrArg, "the error of Line")
	}
	tells(t, Same(e, e), true, "Same")
	tells(t, Same(e, f), false, "Same")
	tells(t, Compare(e, f), 1, "Compare")
	tells(t, Compare(f, e), -1, "Compare")
}
