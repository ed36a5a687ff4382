package heads

import (
	"fmt"
	"math"
	"slices"
	"strings"
	"testing"

	"bindle/api"
	"bindle/event"
	"bindle/vec"
)

// chain tells numbers of a fixed rule, one after the other.
type chain uint64

func (c *chain) word() uint64 {
	*c = *c*6364136223846793005 + 1442695040888963407
	return uint64(*c) ^ uint64(*c)>>33
}

// below is one of the fixed rule, from 0 to n-1.
func (c *chain) below(n int) int {
	return int(c.word() >> 9 % uint64(n))
}

// of is one of l.
func of[T any](c *chain, l []T) T {
	return l[c.below(len(l))]
}

// turned is l in an order of the fixed rule.
func turned(c *chain, l []api.Event) []api.Event {
	l = slices.Clone(l)
	for i := range l {
		j := i + c.below(len(l)-i)
		l[i], l[j] = l[j], l[i]
	}
	return l
}

// some is n of l, by the fixed rule, one more often than once perhaps.
func some(c *chain, l []api.Event, n int) []api.Event {
	var s []api.Event
	for range n {
		s = append(s, of(c, l))
	}
	return s
}

// ev is an event of the line "put 0:1 - a" or "del 0:1 - a"; of a put with a digest and a size that hang on its dot.
func ev(t *testing.T, line string) api.Event {
	t.Helper()
	var replica, seq int
	fmt.Sscanf(line[4:], "%d:%d", &replica, &seq)
	if line[:3] == "put" {
		line += fmt.Sprintf(" %064x %d", 99*replica+seq, (replica+seq)%65537)
	}
	e, failed := event.Parse(line)
	if failed != api.OK {
		t.Fatalf("%q is no line", line)
	}
	return e
}

// evs is the events of lines.
func evs(t *testing.T, lines ...string) []api.Event {
	t.Helper()
	var l []api.Event
	for _, line := range lines {
		l = append(l, ev(t, line))
	}
	return l
}

// told is all of h, so that two are told alike if, and only if, all their events' fields are the same.
func told(h []api.Event) string {
	var b strings.Builder
	for _, e := range h {
		fmt.Fprintf(&b, "%d %d %d %q %x %d\n", e.Dot, []api.Dot(e.Deps), e.Kind, e.Path, e.Sum, e.Size)
	}
	return b.String()
}

// is holds that got is want.
func is(t *testing.T, got, want []api.Event, what string, args ...any) {
	t.Helper()
	if told(got) != told(want) {
		t.Fatalf("%.9999s:\n%.9999s\nnot:\n%.9999s", fmt.Sprintf(what, args...), told(got), told(want))
	}
}

// tells holds that got is want.
func tells[T comparable](t *testing.T, got, want T, what string, args ...any) {
	t.Helper()
	if got != want {
		t.Fatalf("%.9999s = %v, not %v", fmt.Sprintf(what, args...), got, want)
	}
}

// plainHas tells whether v knows d, told by the document's words.
func plainHas(v api.Vec, d api.Dot) bool {
	for _, k := range v {
		if k.Replica == d.Replica && d.Replica >= 0 && d.Replica <= 31 && d.Seq >= 1 && d.Seq <= k.Seq && k.Seq <= 1<<40 {
			return true
		}
	}
	return false
}

// plainKnows tells whether f was known when e was made, and is at e's path.
func plainKnows(e, f api.Event) bool {
	return e.Path == f.Path && plainHas(e.Deps, f.Dot)
}

// plainAbove tells whether e stands above f.
func plainAbove(e, f api.Event) bool {
	if e.Path != f.Path {
		return e.Path > f.Path
	}
	if e.Dot.Replica != f.Dot.Replica {
		return e.Dot.Replica > f.Dot.Replica
	}
	return e.Dot.Seq > f.Dot.Seq
}

// plainMay tells whether h is heads, told by the chapter's words.
func plainMay(h []api.Event) bool {
	for i, e := range h {
		if !event.May(e) || i > 0 && !plainAbove(e, h[i-1]) {
			return false
		}
		for j, f := range h {
			if i != j && (e.Dot == f.Dot || plainKnows(e, f)) {
				return false
			}
		}
	}
	return true
}

// plainAdd is h with e added, told by the chapter's words.
func plainAdd(h []api.Event, e api.Event) []api.Event {
	for _, f := range h {
		if f.Path == e.Path && f.Dot == e.Dot || plainKnows(f, e) {
			return h
		}
	}
	var left []api.Event
	for _, f := range h {
		if !plainKnows(e, f) {
			left = append(left, f)
		}
	}
	for i, f := range left {
		if plainAbove(f, e) {
			return slices.Concat(left[:i], []api.Event{e}, left[i:])
		}
	}
	return append(left, e)
}

// plainJoin is h with all of k added.
func plainJoin(h, k []api.Event) []api.Event {
	for _, e := range k {
		h = plainAdd(h, e)
	}
	return h
}

// plainTop is the greatest number that replica has in h.
func plainTop(h []api.Event, replica int) int64 {
	seqs := []int64{0}
	for _, e := range h {
		if e.Dot.Replica == replica {
			seqs = append(seqs, e.Dot.Seq)
		}
	}
	return slices.Max(seqs)
}

// plainLast is those of l that none of l at their path knows, each once, rising.
func plainLast(l []api.Event) []api.Event {
	var last []api.Event
	for _, e := range l {
		if !slices.ContainsFunc(l, func(f api.Event) bool { return plainKnows(f, e) }) {
			last = append(last, e)
		}
	}
	slices.SortFunc(last, event.Compare)
	return slices.CompactFunc(last, func(e, f api.Event) bool { return e.Dot == f.Dot })
}

// holds holds that all calls tell of h what the chapter's words have, at paths and of replicas that h has and others.
func holds(t *testing.T, h []api.Event, known api.Vec) {
	t.Helper()
	tells(t, May(h), plainMay(h), "May(%v)", h)
	at, drop := map[string][]api.Event{"": nil, "a": nil, "zz": nil}, []api.Event{}
	tops := map[int]bool{-1: true, 0: true, 1: true, 31: true, 32: true}
	for _, e := range h {
		at[e.Path] = append(at[e.Path], e)
		tops[e.Dot.Replica] = true
		if e.Kind != 2 || !plainHas(known, e.Dot) {
			drop = append(drop, e)
		}
	}
	for path, l := range at {
		is(t, At(h, path), l, "At(%v, %.99q)", h, path)
	}
	for replica := range tops {
		tells(t, Top(h, replica), plainTop(h, replica), "Top(%v, %d)", h, replica)
	}
	is(t, Drop(h, known), drop, "Drop(%v, %v)", h, known)
}

// history is the events of so many replicas at paths: each makes some of what it knows, and they tell each other all they know.
func history(t *testing.T, c *chain, replicas, steps int, paths ...string) []api.Event {
	t.Helper()
	known := make([]api.Vec, replicas)
	var all []api.Event
	for range steps {
		r, other := c.below(replicas), c.below(replicas)
		if c.below(3) == 0 {
			known[r] = vec.Join(known[r], known[other])
			continue
		}
		e := api.Event{Dot: api.Dot{Replica: r, Seq: vec.Get(known[r], r) + 1}, Deps: known[r], Kind: api.Delete, Path: of(c, paths)}
		if c.below(2) == 0 {
			e.Kind, e.Sum, e.Size = api.Put, api.Digest{byte(r), 31: byte(e.Dot.Seq)}, c.below(65537)
		}
		tells(t, event.May(e), true, "event.May(%v)", e)
		known[r] = vec.With(known[r], e.Dot)
		all = append(all, e)
	}
	return all
}

var paths = []string{"a", "a-b", "a.b", "a/b", "a0", "b"}

// odds is events of all kinds: of few paths and dots, so that some are alike, know each other or themselves, and many may not be.
func odds(c *chain) []api.Event {
	dots := []api.Dot{{}, {Replica: 0, Seq: 1}, {Replica: 0, Seq: 2}, {Replica: 1, Seq: 1}, {Replica: 1, Seq: 2}, {Replica: 2, Seq: 1}, {Replica: 31, Seq: 1 << 40}, {Replica: 0, Seq: -1}, {Replica: -1, Seq: 1}, {Replica: 32, Seq: 5}, {Replica: 1<<32 + 1, Seq: 1}, {Replica: 1, Seq: 1<<40 + 1}, {Replica: math.MinInt, Seq: math.MinInt64}, {Replica: math.MaxInt, Seq: math.MaxInt64}}
	var l []api.Event
	for range 60 {
		e := api.Event{Dot: of(c, dots), Kind: c.below(4), Path: of(c, append(paths, "", "/", "a~0-1", "\xff", strings.Repeat("x", 201))), Size: c.below(3) - 1}
		for range c.below(4) {
			e.Deps = append(e.Deps, of(c, dots))
		}
		l = append(l, e)
	}
	return l
}

// pools is lists of events to take some of: of histories, of all kinds, and of both.
func pools(t *testing.T, c *chain) [][]api.Event {
	t.Helper()
	var l [][]api.Event
	for range 12 {
		l = append(l, history(t, c, 1+c.below(4), 20, paths[:1+c.below(4)]...), odds(c))
		l = append(l, slices.Concat(l[len(l)-2], l[len(l)-1]))
	}
	return append(l, history(t, c, 32, 300, "a", "b"))
}

// ordered is l, some of it, in one of several orders: heads, rising, of rising paths alone, or any.
func ordered(c *chain, l []api.Event) []api.Event {
	switch c.below(4) {
	case 0:
		return plainJoin(nil, l)
	case 1:
		slices.SortFunc(l, event.Compare)
	case 2:
		slices.SortStableFunc(l, func(e, f api.Event) int { return strings.Compare(e.Path, f.Path) })
	}
	return l
}

// known is dots of the fixed rule.
func known(c *chain) api.Vec {
	var v api.Vec
	for range c.below(6) {
		v = append(v, api.Dot{Replica: c.below(5) - 1, Seq: int64(c.below(9)) - 1})
	}
	return v
}

func TestP13_1Examples(t *testing.T) {
	a, b := ev(t, "put 0:1 - x"), ev(t, "del 1:1 0:1 x")
	is(t, Add([]api.Event{a}, b), []api.Event{b}, "the one that knows the other behind it")
	is(t, Add([]api.Event{b}, a), []api.Event{b}, "the one that knows the other ahead of it")
	is(t, Add(nil, a), []api.Event{a}, "one alone")
	is(t, Add([]api.Event{a}, a), []api.Event{a}, "one twice")
	is(t, Join([]api.Event{a}, nil), []api.Event{a}, "joined with none")
	is(t, Join(nil, []api.Event{b, a, b}), []api.Event{b}, "all joined with none")
	is(t, Join(nil, nil), nil, "none joined with none")
}

func TestP13_1AddPlaces(t *testing.T) {
	h := evs(t, "put 0:1 - b", "del 3:1 - b", "put 5:9 5:8 b", "put 1:1 - d")
	for _, c := range []struct {
		line  string
		place int
		gone  []int
	}{
		{"put 9:1 - a", 0, nil},
		{"put 9:1 - A", 0, nil},
		{"put 9:1 - b", 3, nil},
		{"put 1:2 1:1 b", 1, nil},
		{"put 4:1 - b", 2, nil},
		{"del 4:1 - b.c", 3, nil},
		{"del 4:1 - b/c", 3, nil},
		{"put 4:1 - c", 3, nil},
		{"put 0:2 0:1 d", 3, nil},
		{"put 2:1 - d", 4, nil},
		{"put 2:1 - e", 4, nil},
		// What is known at other paths stays, even the event's own replica's.
		{"put 3:2 0:1,1:1,3:1,5:9 a", 0, nil},
		{"put 3:2 0:1,1:1,3:1,5:9 c", 3, nil},
		{"put 3:2 0:1,3:1,5:9 d", 4, nil},
		// What is known at the path goes out, wherever it stands.
		{"del 9:1 0:1 b", 2, []int{0}},
		{"put 9:1 3:1 b", 2, []int{1}},
		{"put 9:1 5:9 b", 2, []int{2}},
		{"put 1:2 0:7,1:1,5:12 b", 0, []int{0, 2}},
		{"put 3:2 0:1,1:9,3:1,5:9 b", 0, []int{0, 1, 2}},
		{"put 5:10 5:9 b", 2, []int{2}},
		{"put 0:3 0:2 b", 0, []int{0}},
		{"del 1:2 1:1 d", 3, []int{3}},
		{"put 0:2 0:1,1:1 d", 3, []int{3}},
		// What knows less of a replica than its event there doesn't put that out.
		{"put 9:1 5:8 b", 3, nil},
	} {
		e := ev(t, c.line)
		want := slices.Clone(h)
		for i, gone := range c.gone {
			want = slices.Delete(want, gone-i, gone-i+1)
		}
		is(t, Add(h, e), slices.Insert(want, c.place, e), "Add of %s", c.line)
	}
	// What is there already, or is known there, isn't added.
	for _, line := range []string{"put 0:1 - b", "put 3:1 - b", "del 3:1 0:1,5:9 b", "del 5:1 - b", "put 5:8 5:7 b", "put 5:3 0:1,3:1,5:2 b", "put 1:1 - d"} {
		is(t, Add(h, ev(t, line)), h, "Add of %s", line)
	}
	// The same dot at another path hinders nothing.
	e := ev(t, "put 0:1 - d")
	is(t, Add(h, e), slices.Insert(slices.Clone(h), 3, e), "Add of the same dot elsewhere")
}

// TestP13_1AddKnownAndKnowing has one that knows some at its path, and that another one there knows: nothing goes out.
func TestP13_1AddKnownAndKnowing(t *testing.T) {
	h := evs(t, "put 0:1 - a", "put 2:1 1:1 a")
	is(t, Add(h, ev(t, "put 1:1 0:1 a")), h, "Add of one that is known")
	// It is known at another path only.
	h = evs(t, "put 0:1 - a", "put 2:1 1:1 b")
	e := ev(t, "put 1:1 0:1 a")
	is(t, Add(h, e), []api.Event{e, h[1]}, "Add of one that is known elsewhere")
}

// TestP13_1AddLoose has lists that aren't heads: whatever stands in them, it is done as the words say.
func TestP13_1AddLoose(t *testing.T) {
	high, low, mid := ev(t, "put 9:1 - b"), ev(t, "put 1:1 - b"), ev(t, "put 5:1 - b")
	is(t, Add([]api.Event{high, low}, mid), []api.Event{mid, high, low}, "ahead of the first one above")
	is(t, Add([]api.Event{low, high, low, high}, mid), []api.Event{low, mid, high, low, high}, "ahead of the first one above")
	is(t, Add([]api.Event{low, low}, mid), []api.Event{low, low, mid}, "behind all")
	// The first one above goes out: the next one above counts.
	e := ev(t, "put 5:1 9:1 b")
	is(t, Add([]api.Event{high, low, ev(t, "put 7:1 - b")}, e), []api.Event{low, e, ev(t, "put 7:1 - b")}, "the first one above is known")
	is(t, Add([]api.Event{high, high, low, high}, e), []api.Event{low, e}, "one that is known, several times")
	// One that knows itself is added, and then there.
	self := api.Event{Dot: api.Dot{Replica: 1, Seq: 1}, Deps: api.Vec{{Replica: 1, Seq: 1}}, Path: "b"}
	is(t, Add(nil, self), []api.Event{self}, "one that knows itself")
	is(t, Add([]api.Event{high}, self), []api.Event{self, high}, "one that knows itself")
	is(t, Add([]api.Event{self}, low), []api.Event{self}, "one whose dot is known, and there")
	// Dots that may not be are known by none, but are the same.
	var zero api.Event
	is(t, Add(nil, zero), []api.Event{zero}, "the zero event")
	is(t, Add([]api.Event{zero}, zero), []api.Event{zero}, "the zero event twice")
	odd := api.Event{Deps: api.Vec{{}, {Replica: -1, Seq: 5}, {Replica: 32, Seq: 5}}, Dot: api.Dot{Replica: 3, Seq: 1}}
	for _, d := range []api.Dot{{}, {Replica: -1, Seq: 5}, {Replica: 32, Seq: 5}, {Replica: 0, Seq: -1}} {
		f := api.Event{Dot: d}
		is(t, Add([]api.Event{odd}, f), plainAdd([]api.Event{odd}, f), "Add of a dot that may not be")
		is(t, Add([]api.Event{f}, odd), plainAdd([]api.Event{f}, odd), "Add to a dot that may not be")
		tells(t, len(Add([]api.Event{odd}, f)), 2, "the events, of which none knows %v", d)
	}
}

func TestP13_1Add(t *testing.T) {
	c := chain(83)
	for _, pool := range pools(t, &c) {
		for range 300 {
			h, e := ordered(&c, some(&c, pool, c.below(12))), of(&c, pool)
			is(t, Add(h, e), plainAdd(h, e), "Add(%v, %v)", h, e)
		}
	}
}

func TestP13_1Join(t *testing.T) {
	c := chain(89)
	for _, pool := range pools(t, &c) {
		for range 300 {
			h, k := ordered(&c, some(&c, pool, c.below(12))), some(&c, pool, c.below(12))
			is(t, Join(h, k), plainJoin(h, k), "Join(%v, %v)", h, k)
			is(t, Join(nil, h), plainJoin(nil, h), "Join of none with %v", h)
			is(t, Join(h, h), h, "Join with itself of %v", h)
		}
	}
}

// TestP13_1AllSmall has all lists of up to three of a few events, and each of these, and each two, added.
func TestP13_1AllSmall(t *testing.T) {
	pool := evs(t, "put 0:1 - a", "del 1:1 0:1 a", "put 2:1 - a", "put 0:2 0:1 a", "del 0:2 0:1,1:1,2:1 b", "put 0:1 - b")
	pool = append(pool, api.Event{Dot: api.Dot{Replica: 1, Seq: 1}, Deps: api.Vec{{Replica: 2, Seq: 1}}, Path: "a"})
	lists := [][]api.Event{nil}
	heads := 0
	for level := 0; level < len(lists); level++ {
		h := lists[level]
		holds(t, h, api.Vec{{Replica: 1, Seq: 1}})
		if May(h) {
			heads++
		}
		for _, e := range pool {
			is(t, Add(h, e), plainAdd(h, e), "Add(%v, %v)", h, e)
			for _, f := range pool {
				is(t, Join(h, []api.Event{e, f}), plainJoin(h, []api.Event{e, f}), "Join(%v, %v)", h, []api.Event{e, f})
			}
			if len(h) < 3 {
				lists = append(lists, append(slices.Clone(h), e))
			}
		}
	}
	tells(t, len(lists), 1+7+49+343, "the count of lists")
	// At a alone there are 10: none, 4 of one, 4 of two, 1 of three. With 0:2 at b 6 of up to two without that dot, with 0:1 at b 7.
	tells(t, heads, 10+6+7, "the count of heads")
}

// full is heads with as many at a path as there can be, at three paths.
func full() []api.Event {
	var h []api.Event
	for i, path := range []string{"a", "a/b", "b"} {
		for replica := range 32 {
			e := api.Event{Dot: api.Dot{Replica: replica, Seq: int64(i) + 1}, Kind: api.Put, Path: path, Size: i}
			if i > 0 {
				e.Deps = api.Vec{{Replica: replica, Seq: int64(i)}}
			}
			h = append(h, e)
		}
	}
	return h
}

func TestP13_1MayExamples(t *testing.T) {
	for _, lines := range [][]string{
		{},
		{"put 0:1 - a"},
		{"put 0:1 - a", "del 1:1 - a"},
		{"del 0:2 0:1 a", "put 1:1 - a", "put 31:1 0:1 a"},
		{"put 0:1 - a", "del 1:1 0:1 b"},
		{"put 0:3 0:2,1:9 a", "del 1:1 - b", "put 1:9 0:3,1:8 c", "put 0:2 0:1 d"},
		{"put 0:2 0:1 a", "put 0:1 - b"},
		{"put 9:1 - A", "put 8:1 - B", "put 7:1 - a", "put 6:1 - a-b", "put 5:1 - a/b", "put 4:1 - a0"},
		{"put 9:1099511627776 9:1099511627775 a"},
	} {
		tells(t, May(evs(t, lines...)), true, "May of %q", lines)
	}
	tells(t, May(full()), true, "May of all replicas at three paths")
	for _, lines := range [][]string{
		// Not rising.
		{"put 1:1 - b", "put 0:1 - a"},
		{"put 1:1 - a", "put 0:1 - a"},
		{"put 0:1 - a", "put 2:1 - a", "put 1:1 - a"},
		{"put 0:1 - a", "put 1:1 - c", "put 2:1 - b"},
		{"put 0:1 - a", "put 1:1 - B"},
		{"put 0:1 - a/b", "put 1:1 - a-b"},
		// One twice.
		{"put 0:1 - a", "put 0:1 - a"},
		{"put 0:1 - a", "put 1:1 - a", "put 1:1 - a"},
		// A dot twice.
		{"put 0:1 - a", "del 0:1 - a"},
		{"put 0:1 - a", "put 0:1 - b"},
		{"put 0:1 - a", "put 1:1 - b", "put 2:1 - b", "del 0:1 1:1 c"},
		{"put 0:1 - a", "put 1:1 - b", "put 2:1 - c", "put 1:1 0:1 d"},
		// One at the path knows another one, whichever stands first, and what stands between.
		{"put 0:1 - a", "del 1:1 0:1 a"},
		{"put 0:1 1:1 a", "del 1:1 - a"},
		{"put 0:1 - a", "put 0:2 0:1 a"},
		{"put 0:1 - a", "put 0:5 0:4 a"},
		{"put 0:1 - a", "put 1:1 - a", "put 2:1 0:1 a"},
		{"put 0:1 2:1 a", "put 1:1 - a", "put 2:1 - a"},
		{"put 0:1 2:9 a", "put 1:1 - a", "put 2:3 2:2 a"},
		{"put 0:1 - a", "put 1:1 - b", "put 2:1 - b", "put 3:1 2:1 b"},
		{"put 0:1 - a", "put 1:1 2:1 b", "put 2:1 - b", "put 3:1 - c"},
		// Each knows the other.
		{"put 0:1 1:1 a", "del 1:1 0:1 a"},
	} {
		tells(t, May(evs(t, lines...)), false, "May of %q", lines)
	}
}

// TestP13_1MayFaults has heads with one fault each, at each place.
func TestP13_1MayFaults(t *testing.T) {
	h := full()
	for i := range h {
		for name, fault := range map[string]func(e *api.Event){
			"nothing in it":      func(e *api.Event) { *e = api.Event{} },
			"no kind":            func(e *api.Event) { e.Kind = 0 },
			"a kind 3":           func(e *api.Event) { e.Kind = 3 },
			"a size beyond all":  func(e *api.Event) { e.Size = 65537 },
			"a size below 0":     func(e *api.Event) { e.Size = -1 },
			"deps of itself":     func(e *api.Event) { e.Deps = api.Vec{e.Dot} },
			"deps that rise not": func(e *api.Event) { e.Deps = append(api.Vec{{Replica: 32, Seq: 1}}, e.Deps...) },
			"no such path":       func(e *api.Event) { e.Path += "~" },
			"a delete of bytes":  func(e *api.Event) { e.Kind, e.Size = api.Delete, 1 },
			"a delete of a file": func(e *api.Event) { e.Kind, e.Size, e.Sum = api.Delete, 0, api.Digest{1} },
		} {
			l := slices.Clone(h)
			fault(&l[i])
			tells(t, May(l), false, "May with one of %s at %d", name, i)
		}
		tells(t, May(slices.Insert(slices.Clone(h), i, h[i])), false, "May with one twice at %d", i)
		tells(t, May(slices.Delete(slices.Clone(h), i, i+1)), true, "May without the one at %d", i)
		for j := range i {
			l := slices.Clone(h)
			l[i], l[j] = h[j], h[i]
			tells(t, May(l), false, "May with %d and %d exchanged", i, j)
			l = slices.Clone(h)
			l[i].Deps = vec.With(h[i].Deps, h[j].Dot)
			tells(t, May(l), h[i].Path != h[j].Path, "May with one at %d that knows %d", i, j)
			l = slices.Clone(h)
			l[j].Deps = vec.With(h[j].Deps, h[i].Dot)
			// It knows with it what that one's replica made ahead of it, at its own path too.
			tells(t, May(l), false, "May with one at %d that knows %d", j, i)
			l = slices.Clone(h)
			l[i].Dot, l[i].Deps = h[j].Dot, h[j].Deps
			tells(t, May(l), false, "May with the dot of %d at %d", j, i)
		}
	}
}

func TestP13_1May(t *testing.T) {
	c := chain(97)
	count := map[bool]int{}
	for _, pool := range pools(t, &c) {
		for range 300 {
			h := ordered(&c, some(&c, pool, c.below(5)))
			tells(t, May(h), plainMay(h), "May(%v)", h)
			count[May(h)]++
		}
	}
	if count[true] < 2000 || count[false] < 2000 {
		t.Fatalf("heads or not: %v", count)
	}
}

func TestP13_2Examples(t *testing.T) {
	h := evs(t, "del 0:3 0:2 a", "put 2:5 2:4 a", "del 9:1 - a", "del 1:1 - a/b", "put 2:4 2:3 b", "del 31:1099511627776 31:1099511627775 b")
	for path, want := range map[string][]int{"a": {0, 1, 2}, "a/b": {3}, "b": {4, 5}, "": {}, "A": {}, "a/": {}, "a/b/c": {}, "c": {}, "a~0-1": {}} {
		var l []api.Event
		for _, i := range want {
			l = append(l, h[i])
		}
		is(t, At(h, path), l, "At(%q)", path)
	}
	for text, gone := range map[string][]int{
		"-":                                {},
		"0:3":                              {0},
		"0:2":                              {},
		"0:4":                              {0},
		"2:9":                              {},
		"1:1,9:1":                          {2, 3},
		"31:1099511627775":                 {},
		"31:1099511627776":                 {5},
		"0:9,1:9,2:9,9:9,31:9":             {0, 2, 3},
		"0:3,1:1,2:5,9:1,31:1099511627776": {0, 2, 3, 5},
	} {
		known, _ := vec.Parse(text)
		left := slices.Clone(h)
		for i, place := range gone {
			left = slices.Delete(left, place-i, place-i+1)
		}
		is(t, Drop(h, known), left, "Drop of what is known to %s", text)
	}
	for replica, want := range map[int]int64{0: 3, 1: 1, 2: 5, 9: 1, 31: 1 << 40, 3: 0, 30: 0, 32: 0, -1: 0, 256: 0, 1 << 32: 0, math.MinInt: 0, math.MaxInt: 0} {
		tells(t, Top(h, replica), want, "Top of %d", replica)
		tells(t, Top(nil, replica), 0, "Top of %d, of none", replica)
	}
	is(t, At(nil, "a"), nil, "At of none")
	is(t, Drop(nil, api.Vec{{Replica: 0, Seq: 1}}), nil, "Drop of none")
}

// TestP13_2Loose has lists that aren't heads, and dots in any order.
func TestP13_2Loose(t *testing.T) {
	b, a := ev(t, "put 0:9 0:8 b"), ev(t, "del 0:2 0:1 a")
	is(t, At([]api.Event{b, a, b, b, a}, "b"), []api.Event{b, b, b}, "At of some several times")
	is(t, Drop([]api.Event{a, b, a, b}, api.Vec{{Replica: 9, Seq: 9}, {Replica: 0, Seq: 2}, {Replica: 0, Seq: 1}}), []api.Event{b, b}, "Drop of some several times")
	tells(t, Top([]api.Event{a, b, a}, 0), 9, "Top of some that don't rise")
	// No vector knows a dot that may not be, whatever has it; of a kind that is none nothing is known to be deleted.
	for _, d := range []api.Dot{{}, {Replica: 0, Seq: -1}, {Replica: 32, Seq: 1}, {Replica: -1, Seq: 1}, {Replica: 0, Seq: 1<<40 + 1}} {
		l := []api.Event{{Dot: d, Kind: api.Delete, Path: "a"}}
		is(t, Drop(l, api.Vec{d, {Replica: 0, Seq: 1 << 40}}), l, "Drop of the dot %v", d)
	}
	for _, kind := range []int{-1, 0, 1, 3, 4, 256 + 2, 1<<32 + 2} {
		l := []api.Event{{Dot: a.Dot, Kind: kind}}
		is(t, Drop(l, api.Vec{a.Dot}), l, "Drop of the kind %d", kind)
	}
	// Nothing else is asked.
	is(t, Drop([]api.Event{{Dot: a.Dot, Kind: api.Delete, Size: -1, Sum: api.Digest{1}}}, api.Vec{a.Dot}), nil, "Drop of a delete that may not be")
	is(t, At([]api.Event{{}}, ""), []api.Event{{}}, "At of no path")
	for _, d := range []api.Dot{{Replica: -7, Seq: 5}, {Replica: 32, Seq: 1}, {Replica: math.MaxInt, Seq: math.MaxInt64}, {Replica: math.MinInt, Seq: 2}} {
		tells(t, Top([]api.Event{{Dot: d}}, d.Replica), d.Seq, "Top of the dot %v", d)
	}
	tells(t, Top([]api.Event{{Dot: api.Dot{Replica: 3, Seq: math.MinInt64}}, {Dot: api.Dot{Replica: 3, Seq: -1}}}, 3), 0, "Top of numbers below 0")
}

func TestP13_2(t *testing.T) {
	c := chain(101)
	for _, pool := range pools(t, &c) {
		for range 200 {
			holds(t, ordered(&c, some(&c, pool, c.below(15))), known(&c))
		}
	}
}

// addedAll is what Add makes of l, one after the other.
func addedAll(l []api.Event) []api.Event {
	var h []api.Event
	for _, e := range l {
		h = Add(h, e)
	}
	return h
}

// TestP13_3AnyOrder adds histories' events, or some of them, in several orders, some twice.
func TestP13_3AnyOrder(t *testing.T) {
	c := chain(103)
	for replicas := 1; replicas <= 32; replicas++ {
		for range 12 {
			all := history(t, &c, replicas, 60, paths[:1+c.below(len(paths))]...)
			for _, l := range [][]api.Event{all, turned(&c, all)[:len(all)/2], some(&c, all, 30)} {
				want := plainLast(l)
				tells(t, May(want), true, "May(%v)", want)
				for range 3 {
					in := turned(&c, slices.Concat(l, some(&c, l, 3)))
					is(t, addedAll(in), want, "%v, added", in)
					is(t, Join(nil, in), want, "%v, joined with none", in)
				}
			}
		}
	}
}

// TestP13_3Parts joins what two parts of a history make, some of it in both.
func TestP13_3Parts(t *testing.T) {
	c := chain(107)
	for replicas := 1; replicas <= 32; replicas++ {
		for range 12 {
			all := history(t, &c, replicas, 60, paths[:1+c.below(len(paths))]...)
			l := turned(&c, all)
			from, to := c.below(len(l)+1), c.below(len(l)+1)
			one, other, rest := addedAll(l[:max(from, to)]), addedAll(l[min(from, to):]), addedAll(some(&c, all, 9))
			want := plainLast(l)
			is(t, Join(one, other), want, "Join(%v, %v)", one, other)
			is(t, Join(other, one), want, "Join(%v, %v)", other, one)
			is(t, Join(one, one), one, "Join of %v with itself", one)
			is(t, Join(want, rest), want, "Join of all with some")
			is(t, Join(rest, want), want, "Join of some with all")
			is(t, Join(Join(rest, one), other), Join(rest, Join(one, other)), "Join of three")
		}
	}
}

// TestP13_3AllOrders has all orders of all sets of a small history's events.
func TestP13_3AllOrders(t *testing.T) {
	all := evs(t, "put 0:1 - a", "put 1:1 - a", "del 0:2 0:1,1:1 b", "put 0:3 0:2,1:1 a", "del 2:1 1:1 a", "put 1:2 0:2,1:1 b")
	for set := range 1 << len(all) {
		var l []api.Event
		for i, e := range all {
			if set>>i&1 == 1 {
				l = append(l, e)
			}
		}
		want := plainLast(l)
		tells(t, May(want), true, "May(%v)", want)
		orders(l, func(in []api.Event) {
			is(t, addedAll(in), want, "%v, added", in)
			is(t, Join(nil, in), want, "%v, joined with none", in)
			for i := range in {
				is(t, Join(addedAll(in[:i]), addedAll(in[i:])), want, "%v, parted at %d", in, i)
			}
		})
	}
}

// orders calls with l in each of its orders.
func orders(l []api.Event, call func(in []api.Event)) {
	var from func(i int)
	from = func(i int) {
		if i >= len(l) {
			call(l)
		}
		for j := i; j < len(l); j++ {
			l[i], l[j] = l[j], l[i]
			from(i + 1)
			l[i], l[j] = l[j], l[i]
		}
	}
	from(0)
}

// TestR2NilAndEmpty holds that no events, and no dots, are none, whichever way.
func TestR2NilAndEmpty(t *testing.T) {
	e := ev(t, "del 0:1 - a")
	for _, none := range [][]api.Event{nil, {}, make([]api.Event, 0, 9), full()[:0]} {
		tells(t, May(none), true, "May of none")
		is(t, Add(none, e), []api.Event{e}, "Add to none")
		is(t, Join(none, []api.Event{e}), []api.Event{e}, "Join of none")
		is(t, Join([]api.Event{e}, none), []api.Event{e}, "Join with none")
		is(t, Join(none, none), nil, "Join of none with none")
		is(t, At(none, "a"), nil, "At of none")
		is(t, Drop(none, api.Vec{e.Dot}), nil, "Drop of none")
		tells(t, Top(none, 0), 0, "Top of none")
	}
	for _, none := range []api.Vec{nil, {}, make(api.Vec, 0, 9), full()[40].Deps[:0]} {
		f := e
		f.Deps = none
		tells(t, May([]api.Event{f}), true, "May with no dots")
		is(t, Add([]api.Event{e}, f), []api.Event{e}, "Add of the same")
		is(t, Drop([]api.Event{e}, none), []api.Event{e}, "Drop of what is known to none")
	}
}

// roomy is h with the same events, and with room behind it and behind all Deps in which other ones stand; and all of that, told.
func roomy(h []api.Event) (in []api.Event, all func() string) {
	room := append(slices.Clone(h), full()[:3]...)
	for i, e := range room {
		d := append(slices.Clone(e.Deps), api.Dot{Replica: 5, Seq: 5}, api.Dot{Replica: 6, Seq: 6})
		room[i].Deps = d[:len(e.Deps)]
	}
	return room[:len(h)], func() string {
		whole := slices.Clone(room)
		for i, e := range whole {
			whole[i].Deps = e.Deps[:len(e.Deps)+2]
		}
		return told(whole)
	}
}

// spoil changes all of h, and the room behind it and behind its Deps.
func spoil(h []api.Event) {
	for i, e := range h {
		for j := range e.Deps[:cap(e.Deps)] {
			e.Deps[:cap(e.Deps)][j] = api.Dot{Replica: -9 - i, Seq: -9}
		}
	}
	for i := range h[:cap(h)] {
		h[:cap(h)][i] = api.Event{Path: "spoilt"}
	}
}

// TestR3NothingShared holds that what is handed in stays as it is, room behind included, and that changing what is told changes nothing else.
func TestR3NothingShared(t *testing.T) {
	c := chain(109)
	for _, pool := range pools(t, &c) {
		for range 20 {
			h, allOfH := roomy(ordered(&c, some(&c, pool, 1+c.below(9))))
			k, allOfK := roomy(some(&c, pool, 1+c.below(9)))
			v := append(known(&c), api.Dot{Replica: 1, Seq: 1}, api.Dot{Replica: 2, Seq: 2})
			wasH, wasK, wasV := allOfH(), allOfK(), slices.Clone(v)
			for name, call := range map[string]func() []api.Event{
				"Add":        func() []api.Event { return Add(h, k[0]) },
				"Add twice":  func() []api.Event { return Add(h, h[0]) },
				"Add alone":  func() []api.Event { return Add(nil, k[0]) },
				"Join":       func() []api.Event { return Join(h, k) },
				"Join none":  func() []api.Event { return Join(nil, k) },
				"Join with":  func() []api.Event { return Join(h, nil) },
				"Join twice": func() []api.Event { return Join(h, h) },
				"At":         func() []api.Event { return At(h, h[0].Path) },
				"Drop":       func() []api.Event { return Drop(h, v[:len(v)-2]) },
			} {
				one, other := call(), call()
				was := told(other)
				tells(t, told(one), was, "%s, twice", name)
				spoil(one)
				tells(t, told(other), was, "%s, with another one of its answers spoilt", name)
				tells(t, told(call()), was, "%s, behind that", name)
				tells(t, allOfH(), wasH, "what was handed in to %s", name)
				tells(t, allOfK(), wasK, "what was handed in to %s as well", name)
			}
			May(h)
			Top(h, 0)
			tells(t, allOfH(), wasH, "what was handed in to May and Top")
			if !slices.Equal(v, wasV) {
				t.Fatalf("the vector became %v, from %v", v, wasV)
			}
		}
	}
}

// TestR3DepsApart holds that no two events of one answer share their Deps, even if those that were handed in do.
func TestR3DepsApart(t *testing.T) {
	deps := api.Vec{{Replica: 9, Seq: 9}, {Replica: 10, Seq: 1}}
	var h []api.Event
	for replica := range 5 {
		h = append(h, api.Event{Dot: api.Dot{Replica: replica, Seq: 1}, Deps: deps, Kind: api.Put, Path: "a"})
	}
	for name, got := range map[string][]api.Event{
		"Add": Add(h[:4], h[4]), "Add of one there": Add(h, h[0]), "Join": Join(h[:2], h[2:]), "Join of none": Join(nil, h), "Join with none": Join(h, nil), "At": At(h, "a"), "Drop": Drop(h, deps),
	} {
		is(t, got, h, "%s", name)
		for i := range got {
			before := told(slices.Delete(slices.Clone(got), i, i+1))
			for j := range got[i].Deps[:cap(got[i].Deps)] {
				got[i].Deps[:cap(got[i].Deps)][j] = api.Dot{Replica: -1, Seq: -1}
			}
			tells(t, told(slices.Delete(slices.Clone(got), i, i+1)), before, "%s, with the Deps at %d spoilt, the others", name, i)
		}
	}
}

// TestP1Many has as many events as a bundle can have, and more dots than any event: calls end, and soon.
func TestP1Many(t *testing.T) {
	const n = 1 << 17
	var even, odd, all []api.Event
	for i := range n {
		e := api.Event{Dot: api.Dot{Replica: i % 2, Seq: int64(i/2) + 1}, Kind: api.Delete, Path: fmt.Sprintf("%06d", i)}
		if i/2 > 0 {
			e.Deps = api.Vec{{Replica: i % 2, Seq: int64(i / 2)}}
		}
		if all = append(all, e); i%2 == 0 {
			even = append(even, e)
		} else {
			odd = append(odd, e)
		}
	}
	tells(t, May(all), true, "May of many")
	is(t, Join(even, odd), all, "Join of many")
	slices.Reverse(odd)
	is(t, Join(even, odd), all, "Join of many, from behind")
	tells(t, len(Add(even, odd[0])), n/2+1, "the count of many, and one")
	tells(t, len(At(all, "000009")), 1, "the count at a path, of many")
	tells(t, len(Drop(all, api.Vec{{Replica: 1, Seq: n}})), n/2, "the count that is left, of many")
	tells(t, Top(all, 0), n/2, "Top of many")
	slices.Reverse(all)
	tells(t, May(all), false, "May of many that don't rise")
	for i := range all {
		all[i].Path = "a"
	}
	slices.SortFunc(all, event.Compare)
	tells(t, May(all), false, "May of many at a path")
	is(t, Join(nil, all), []api.Event{all[n/2-1], all[n-1]}, "Join of many at a path")
	slices.Reverse(all)
	is(t, Join(nil, all), []api.Event{all[n/2], all[0]}, "Join of many at a path, from behind")
}
