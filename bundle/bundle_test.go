package bundle

import (
	"bytes"
	"crypto/sha256"
	"fmt"
	"math"
	"slices"
	"sort"
	"strings"
	"testing"

	"bindle/api"
	"bindle/event"
	"bindle/heads"
	"bindle/vec"
)

// chain tells numbers of a fixed rule, one after the other.
type chain uint64

func (c *chain) word() uint64 {
	*c = *c*6364136223846793005 + 1442695040888963407
	return uint64(*c) ^ uint64(*c)>>33
}

// below is one of the fixed rule, from 0 to n-1.
func (c *chain) below(n int) int {
	return int(c.word() >> 9 % uint64(n))
}

// of is one of l.
func of[T any](c *chain, l []T) T {
	return l[c.below(len(l))]
}

// turned is l in an order of the fixed rule.
func turned[T any](c *chain, l []T) []T {
	l = slices.Clone(l)
	for i := range l {
		j := i + c.below(len(l)-i)
		l[i], l[j] = l[j], l[i]
	}
	return l
}

// tells holds that got is want.
func tells[T comparable](t *testing.T, got, want T, what string, args ...any) {
	t.Helper()
	if got != want {
		t.Fatalf("%.9999s = %.9999v, not %.9999v", fmt.Sprintf(what, args...), fmt.Sprint(got), fmt.Sprint(want))
	}
}

// toldEvents is all of l, so that two are told alike if, and only if, all their events' fields are the same.
func toldEvents(l []api.Event) string {
	var b strings.Builder
	for _, e := range l {
		fmt.Fprintf(&b, "  %d %d %d %q %x %d\n", e.Dot, []api.Dot(e.Deps), e.Kind, e.Path, e.Sum, e.Size)
	}
	return b.String()
}

// told is all of b, in the same way.
func told(b api.Bundle) string {
	return fmt.Sprintf("from %d to %d id %d base %d know %d events\n%sacks %d blobs %q", b.From, b.To, b.Id, []api.Dot(b.Base), []api.Dot(b.Know), toldEvents(b.Events), b.Acks, b.Blobs)
}

// plainHas tells whether v, a vector, knows d.
func plainHas(v api.Vec, d api.Dot) bool {
	return slices.ContainsFunc(v, func(k api.Dot) bool {
		return k.Replica == d.Replica && d.Replica >= 0 && d.Replica <= 31 && d.Seq >= 1 && d.Seq <= k.Seq && k.Seq <= 1<<40
	})
}

// plainLeq tells whether v, a vector, knows no more than w, another one.
func plainLeq(v, w api.Vec) bool {
	return !slices.ContainsFunc(v, func(d api.Dot) bool { return !plainHas(w, d) })
}

// plainVector tells whether v is a vector of replicas below n.
func plainVector(v api.Vec, n int) bool {
	for i, d := range v {
		if d.Replica < 0 || d.Replica >= n || d.Seq < 1 || d.Seq > 1<<40 || i > 0 && v[i-1].Replica >= d.Replica {
			return false
		}
	}
	return true
}

// fits tells whether data is of e's Size and Sum.
func fits(e api.Event, data []byte) bool {
	return e.Size == len(data) && e.Sum == sha256.Sum256(data)
}

// figures is the digest of data as a text; of two digests as texts the lesser one's bytes are the lesser ones.
func figures(data []byte) string {
	return fmt.Sprintf("%x", sha256.Sum256(data))
}

// plainPuts is the puts of l.
func plainPuts(l []api.Event) []api.Event {
	return slices.DeleteFunc(slices.Clone(l), func(e api.Event) bool { return e.Kind != 1 })
}

// plainBlobs tells whether blobs are as a bundle of such events has them, by the chapter's words.
func plainBlobs(blobs [][]byte, events []api.Event) bool {
	puts := plainPuts(events)
	for i, blob := range blobs {
		if i > 0 && figures(blobs[i-1]) >= figures(blob) || !slices.ContainsFunc(puts, func(e api.Event) bool { return fits(e, blob) }) {
			return false
		}
	}
	return !slices.ContainsFunc(puts, func(e api.Event) bool {
		return !slices.ContainsFunc(blobs, func(blob []byte) bool { return fits(e, blob) })
	})
}

// plainMay tells whether b may be, by the chapter's words.
func plainMay(b api.Bundle, n int) bool {
	if n < 1 || n > 32 || b.From < 0 || b.From >= n || b.To < -1 || b.To >= n || b.To == b.From || b.Id < 1 || b.Id > 1<<40 {
		return false
	}
	if !plainVector(b.Base, n) || !plainVector(b.Know, n) || !plainLeq(b.Base, b.Know) || !heads.May(b.Events) || len(b.Acks) != n {
		return false
	}
	for _, e := range b.Events {
		if !plainHas(b.Know, e.Dot) || plainHas(b.Base, e.Dot) || !plainLeq(e.Deps, b.Know) {
			return false
		}
	}
	for _, row := range b.Acks {
		if !plainVector(row, n) {
			return false
		}
	}
	return slices.Equal(b.Acks[b.From], b.Know) && plainBlobs(b.Blobs, b.Events)
}

// plainFresh is those of l whose dots v hasn't, v being a vector or not.
func plainFresh(l []api.Event, v api.Vec) []api.Event {
	return slices.DeleteFunc(slices.Clone(l), func(e api.Event) bool { return plainHas(v, e.Dot) })
}

// plainMake is Make, by the chapter's words.
func plainMake(b api.Bundle, contents [][]byte, n int) (api.Bundle, api.Errno) {
	b.Events = plainFresh(b.Events, b.Base)
	b.Blobs = nil
	for _, e := range plainPuts(b.Events) {
		first := slices.IndexFunc(contents, func(data []byte) bool { return fits(e, data) })
		if first < 0 {
			return api.Bundle{}, 6
		}
		b.Blobs = append(b.Blobs, contents[first])
	}
	sort.Slice(b.Blobs, func(i, j int) bool { return figures(b.Blobs[i]) < figures(b.Blobs[j]) })
	b.Blobs = slices.CompactFunc(b.Blobs, bytes.Equal)
	if !plainMay(b, n) {
		return api.Bundle{}, 1
	}
	return b, 0
}

// makes holds that Make tells what the chapter's words have.
func makes(t *testing.T, b api.Bundle, contents [][]byte, n int) api.Errno {
	t.Helper()
	got, e := Make(b, contents, n)
	want, wantE := plainMake(b, contents, n)
	tells(t, e, wantE, "the error of Make(%s, %q, %d)", told(b), contents, n)
	tells(t, told(got), told(want), "Make(%s, %q, %d)", told(b), contents, n)
	return e
}

// may holds that May tells want of b, as the chapter's words have it.
func may(t *testing.T, b api.Bundle, n int, want bool, what string, args ...any) {
	t.Helper()
	what = fmt.Sprintf(what, args...)
	tells(t, May(b, n), want, "May of %d, %s: %s", n, what, told(b))
	tells(t, plainMay(b, n), want, "the plain telling of %d, %s: %s", n, what, told(b))
}

// v is the vector of a text.
func v(text string) api.Vec {
	vector, e := vec.Parse(text)
	if e != api.OK {
		panic("no vector's text: " + text)
	}
	return vector
}

// put is a put of a file.
func put(replica int, seq int64, deps, path, data string) api.Event {
	return api.Event{Dot: api.Dot{Replica: replica, Seq: seq}, Deps: v(deps), Kind: api.Put, Path: path, Sum: sha256.Sum256([]byte(data)), Size: len(data)}
}

// del is a delete.
func del(replica int, seq int64, deps, path string) api.Event {
	return api.Event{Dot: api.Dot{Replica: replica, Seq: seq}, Deps: v(deps), Kind: api.Delete, Path: path}
}

// blobs is contents of texts, rising by their digests.
func blobs(texts ...string) [][]byte {
	var l [][]byte
	for _, text := range texts {
		l = append(l, []byte(text))
	}
	sort.Slice(l, func(i, j int) bool { return figures(l[i]) < figures(l[j]) })
	return l
}

// whole is a bundle that may be, of three replicas, with all that a bundle can have.
func whole() api.Bundle {
	return api.Bundle{
		From: 1, To: 2, Id: 7, Base: v("0:1,1:1"), Know: v("0:2,1:3,2:2"),
		Events: []api.Event{
			put(0, 2, "0:1", "a", "x"),
			del(1, 2, "0:1,1:1", "b"),
			put(1, 3, "0:2,1:2", "c", "yy"),
			put(2, 1, "-", "c", "x"),
			put(2, 2, "0:1,2:1", "d", ""),
		},
		Acks:  []api.Vec{v("0:2"), v("0:2,1:3,2:2"), v("1:9,2:5")},
		Blobs: blobs("x", "yy", ""),
	}
}

// bare is a bundle that knows nothing, from one replica of n to another one.
func bare(from, to, n int) api.Bundle {
	return api.Bundle{From: from, To: to, Id: 1, Acks: make([]api.Vec, max(n, 0))}
}

func TestP16_1Examples(t *testing.T) {
	know := v("0:1")
	b := api.Bundle{From: 0, To: -1, Id: 1, Know: know, Events: []api.Event{put(0, 1, "-", "a", "x")}, Acks: []api.Vec{know, nil}}
	may(t, b, 2, false, "without its blob")
	b.Blobs = blobs("x")
	may(t, b, 2, true, "the example")
	may(t, b, 1, false, "the example")
	may(t, b, 3, false, "the example")
	may(t, api.Bundle{}, 0, false, "the zero bundle")
	may(t, api.Bundle{}, 1, false, "the zero bundle")
	may(t, whole(), 3, true, "the whole one")
}

// TestP16_1MayRoster has all rosters that may be, and others, with all replicas from which, and to which, a bundle may go, and others.
func TestP16_1MayRoster(t *testing.T) {
	count := 0
	for n := -1; n <= 34; n++ {
		for from := -2; from <= n+2; from++ {
			for to := -3; to <= n+2; to++ {
				want := 1 <= n && n <= 32 && 0 <= from && from < n && -1 <= to && to < n && to != from
				may(t, bare(from, to, n), n, want, "from %d to %d", from, to)
				if want {
					count++
				}
			}
		}
	}
	tells(t, count, 32*33*65/6, "how many may be")
	for _, n := range []int{math.MinInt, -1, 0, 33, 1 << 32, 1<<32 + 1, math.MaxInt} {
		may(t, bare(0, -1, 1), n, false, "a roster that is none")
		may(t, bare(0, -1, 33), n, false, "a roster that is none")
	}
	for _, odd := range []int{math.MinInt, -1 << 32, -2, 1 << 32, 1<<32 + 1, math.MaxInt} {
		may(t, bare(odd, -1, 2), 2, false, "from what is no replica")
		may(t, bare(0, odd, 2), 2, false, "to what is no replica")
	}
}

func TestP16_1MayIds(t *testing.T) {
	for id, want := range map[int64]bool{1: true, 2: true, 1<<40 - 1: true, 1 << 40: true, 0: false, -1: false, 1<<40 + 1: false, 1<<41 + 1: false, math.MinInt64: false, math.MaxInt64: false} {
		b := bare(0, 1, 2)
		b.Id = id
		may(t, b, 2, want, "id %d", id)
	}
}

// TestP16_1MayVectors has bases and what is known beside it, vectors and others.
func TestP16_1MayVectors(t *testing.T) {
	for _, c := range []struct {
		base, know api.Vec
		want       bool
	}{
		{nil, nil, true},
		{nil, v("0:1"), true},
		{v("0:1"), nil, false},
		{v("0:1"), v("0:1"), true},
		{v("0:1"), v("0:2"), true},
		{v("0:2"), v("0:1"), false},
		{v("1:1"), v("0:1"), false},
		{v("1:1"), v("0:1,2:1"), false},
		{v("0:1,1:2"), v("0:9,1:2,2:1"), true},
		{v("0:1,1:3"), v("0:9,1:2,2:1"), false},
		{v("0:1,1:2,2:1"), v("0:1,1:2,2:1"), true},
		{v("0:1,1:2,2:1"), v("0:1,1:2"), false},
		{v("2:1099511627776"), v("2:1099511627776"), true},
		{v("2:1099511627775"), v("2:1099511627776"), true},
		{v("2:1099511627776"), v("2:1099511627775"), false},
		// Replicas below 3 alone.
		{nil, v("3:1"), false},
		{nil, v("0:1,3:1"), false},
		{nil, v("31:1"), false},
		{v("3:1"), v("3:1"), false},
		{v("3:1"), v("0:1"), false},
		{v("0:1,31:1"), v("0:1,31:1"), false},
		// What is no vector.
		{nil, api.Vec{{}}, false},
		{nil, api.Vec{{Replica: 0, Seq: -1}}, false},
		{nil, api.Vec{{Replica: -1, Seq: 1}}, false},
		{nil, api.Vec{{Replica: 0, Seq: 1<<40 + 1}}, false},
		{nil, api.Vec{{Replica: 0, Seq: 1}, {Replica: 0, Seq: 1}}, false},
		{nil, api.Vec{{Replica: 0, Seq: 1}, {Replica: 0, Seq: 2}}, false},
		{nil, api.Vec{{Replica: 1, Seq: 1}, {Replica: 0, Seq: 1}}, false},
		{nil, api.Vec{{Replica: 0, Seq: 1}, {Replica: 1 << 32, Seq: 1}}, false},
		{api.Vec{{}}, v("0:1"), false},
		{api.Vec{{Replica: -1, Seq: 1}}, v("0:1"), false},
		{api.Vec{{Replica: 32, Seq: 1}}, v("0:1"), false},
		{api.Vec{{Replica: 0, Seq: 1 << 41}}, v("0:1"), false},
		{api.Vec{{Replica: 0, Seq: 1}, {Replica: 0, Seq: 1}}, v("0:1"), false},
		{api.Vec{{Replica: 1, Seq: 1}, {Replica: 0, Seq: 1}}, v("0:1,1:1"), false},
		{api.Vec{{Replica: 0, Seq: 1}, {Replica: 1, Seq: 0}}, v("0:1,1:1"), false},
	} {
		b := bare(1, -1, 3)
		b.Base, b.Know, b.Acks[1] = c.base, c.know, c.know
		may(t, b, 3, c.want, "base %v, know %v", c.base, c.know)
	}
}

// TestP16_1MayAcks has matrices, and others, beside what is known.
func TestP16_1MayAcks(t *testing.T) {
	know := v("0:2,1:3,2:2")
	for _, c := range []struct {
		acks []api.Vec
		want bool
	}{
		{[]api.Vec{nil, know, nil}, true},
		{[]api.Vec{know, know, know}, true},
		// What others know may be more than what is known, and more than what there is.
		{[]api.Vec{v("0:9"), know, v("0:1,1:9,2:1099511627776")}, true},
		{[]api.Vec{nil, {}, nil}, false},
		{[]api.Vec{know, nil, know}, false},
		{[]api.Vec{know, v("0:2,1:3"), know}, false},
		{[]api.Vec{know, v("0:2,1:3,2:1"), know}, false},
		{[]api.Vec{know, v("0:2,1:3,2:3"), know}, false},
		{[]api.Vec{know, v("0:2,1:4,2:2"), know}, false},
		{[]api.Vec{know, v("0:1,1:3,2:2"), know}, false},
		{[]api.Vec{nil, append(v("0:2,1:3,2:2"), api.Dot{Replica: 3, Seq: 1}), nil}, false},
		{[]api.Vec{nil, append(v("0:2,1:3,2:2"), api.Dot{Replica: 2, Seq: 2}), nil}, false},
		{[]api.Vec{nil, append(v("0:2,1:3,2:2"), api.Dot{}), nil}, false},
		{[]api.Vec{nil, append(api.Vec{{Replica: 0, Seq: 1}}, know...), nil}, false},
		// Another number of rows.
		{nil, false},
		{[]api.Vec{know}, false},
		{[]api.Vec{nil, know}, false},
		{[]api.Vec{nil, know, nil, nil}, false},
		{[]api.Vec{know, know, know, know}, false},
		// Other rows that aren't vectors of replicas below 3.
		{[]api.Vec{v("3:1"), know, nil}, false},
		{[]api.Vec{nil, know, v("3:1")}, false},
		{[]api.Vec{nil, know, v("0:1,2:1,31:1")}, false},
		{[]api.Vec{{{}}, know, nil}, false},
		{[]api.Vec{nil, know, {{Replica: 0, Seq: 1}, {Replica: 0, Seq: 2}}}, false},
		{[]api.Vec{nil, know, {{Replica: 1, Seq: 1}, {Replica: 0, Seq: 2}}}, false},
		{[]api.Vec{{{Replica: -1, Seq: 1}}, know, nil}, false},
		{[]api.Vec{{{Replica: 0, Seq: 1<<40 + 1}}, know, nil}, false},
	} {
		b := whole()
		b.Acks = c.acks
		may(t, b, 3, c.want, "acks")
	}
	// The row is From's, whichever that is.
	for from := range 3 {
		b := whole()
		b.From, b.To, b.Acks = from, -1, []api.Vec{nil, nil, nil}
		may(t, b, 3, false, "without a row")
		b.Acks[from] = know
		may(t, b, 3, true, "with From's row")
		b.Acks[(from+1)%3], b.Acks[from] = know, nil
		may(t, b, 3, false, "with another one's row")
	}
}

// TestP16_1MayEvents has events beside a base and what is known that may not be there, by themselves or together.
func TestP16_1MayEvents(t *testing.T) {
	for _, c := range []struct {
		what string
		turn func(b *api.Bundle)
		want bool
	}{
		{"as it is", func(b *api.Bundle) {}, true},
		{"without deletes", func(b *api.Bundle) { b.Events = slices.Delete(b.Events, 1, 2) }, true},
		{"without one of two puts of a content", func(b *api.Bundle) { b.Events = slices.Delete(b.Events, 3, 4) }, true},
		{"without the only put of a content", func(b *api.Bundle) { b.Events = slices.Delete(b.Events, 2, 3) }, false},
		{"without events", func(b *api.Bundle) { b.Events = nil }, false},
		{"without events and blobs", func(b *api.Bundle) { b.Events, b.Blobs = nil, nil }, true},
		{"a delete alone", func(b *api.Bundle) { b.Events, b.Blobs = b.Events[1:2], nil }, true},
		{"twice the same", func(b *api.Bundle) { b.Events = slices.Insert(b.Events, 1, b.Events[0]) }, false},
		{"falling", func(b *api.Bundle) { slices.Reverse(b.Events) }, false},
		{"two turned", func(b *api.Bundle) { b.Events[0], b.Events[1] = b.Events[1], b.Events[0] }, false},
		{"two at a path turned", func(b *api.Bundle) { b.Events[2], b.Events[3] = b.Events[3], b.Events[2] }, false},
		{"one dot at two paths", func(b *api.Bundle) { b.Events[4] = put(2, 1, "-", "d", "") }, false},
		{"one known at its path", func(b *api.Bundle) { b.Events[2] = put(1, 3, "0:2,1:2,2:1", "c", "yy") }, false},
		{"one of no kind", func(b *api.Bundle) { b.Events[1].Kind = 0 }, false},
		{"one of another kind", func(b *api.Bundle) { b.Events[1].Kind = 3 }, false},
		{"a delete of a size", func(b *api.Bundle) { b.Events[1].Size = 1 }, false},
		{"one at a copy's path", func(b *api.Bundle) { b.Events[4].Path = "d~0-1" }, false},
		{"one at no path", func(b *api.Bundle) { b.Events[0].Path = "" }, false},
		{"one that doesn't know those ahead of it", func(b *api.Bundle) { b.Events[4] = put(2, 2, "0:1", "d", "") }, false},
		{"the zero event", func(b *api.Bundle) { b.Events[0] = api.Event{} }, false},
		// Dots beside the base and what is known.
		{"one that the base knows", func(b *api.Bundle) { b.Base = v("0:2,1:1") }, false},
		{"a delete that the base knows", func(b *api.Bundle) { b.Base = v("0:1,1:2") }, false},
		{"one at the end that the base knows", func(b *api.Bundle) { b.Base = v("2:2") }, false},
		{"all that the base knows", func(b *api.Bundle) { b.Base = b.Know }, false},
		{"an older base", func(b *api.Bundle) { b.Base = nil }, true},
		{"a base of another replica's", func(b *api.Bundle) { b.Base = v("1:1") }, true},
		{"one that isn't known", func(b *api.Bundle) { b.Know = v("0:2,1:2,2:2"); b.Acks[1] = b.Know }, false},
		{"a delete that isn't known", func(b *api.Bundle) {
			b.Events[1] = del(2, 3, "0:1,2:2", "b")
		}, false},
		{"one at the end that isn't known", func(b *api.Bundle) { b.Know = v("0:2,1:3,2:1"); b.Acks[1] = b.Know }, false},
		{"one of a replica of which nothing is known", func(b *api.Bundle) { b.Know = v("0:2,1:3"); b.Acks[1] = b.Know }, false},
		{"more that is known", func(b *api.Bundle) { b.Know = v("0:3,1:5,2:7"); b.Acks[1] = b.Know }, true},
		{"one of no replica of the roster", func(b *api.Bundle) {
			b.Events[4] = put(3, 1, "-", "d", "")
		}, false},
		// Deps beside what is known.
		{"one that knows all that is known", func(b *api.Bundle) { b.Events[4] = put(2, 2, "0:2,1:3,2:1", "d", "") }, true},
		{"one that knows more", func(b *api.Bundle) { b.Events[4] = put(2, 2, "0:3,2:1", "d", "") }, false},
		{"one that knows more of another", func(b *api.Bundle) { b.Events[4] = put(2, 2, "1:4,2:1", "d", "") }, false},
		{"a delete that knows more", func(b *api.Bundle) { b.Events[1] = del(1, 2, "0:3,1:1", "b") }, false},
		{"the first one that knows more", func(b *api.Bundle) { b.Events[0] = put(0, 2, "0:1,2:3", "a", "x") }, false},
		{"one that knows of no replica of the roster", func(b *api.Bundle) { b.Events[0] = put(0, 2, "0:1,3:1", "a", "x") }, false},
		{"one that knows less than the base", func(b *api.Bundle) { b.Events[4] = put(2, 2, "2:1", "d", "") }, true},
	} {
		b := whole()
		c.turn(&b)
		may(t, b, 3, c.want, "%s", c.what)
	}
}

func TestP16_1MayBlobs(t *testing.T) {
	const longest = 65536
	long := strings.Repeat("z", longest+1)
	for _, c := range []struct {
		what string
		turn func(b *api.Bundle)
		want bool
	}{
		{"none", func(b *api.Bundle) { b.Blobs = nil }, false},
		{"the first one missing", func(b *api.Bundle) { b.Blobs = b.Blobs[1:] }, false},
		{"the middle one missing", func(b *api.Bundle) { b.Blobs = slices.Delete(b.Blobs, 1, 2) }, false},
		{"the last one missing", func(b *api.Bundle) { b.Blobs = b.Blobs[:2] }, false},
		{"the first one twice", func(b *api.Bundle) { b.Blobs = slices.Insert(b.Blobs, 0, b.Blobs[0]) }, false},
		{"the last one twice", func(b *api.Bundle) { b.Blobs = append(b.Blobs, b.Blobs[2]) }, false},
		{"the first one again, behind all", func(b *api.Bundle) { b.Blobs = append(b.Blobs, b.Blobs[0]) }, false},
		{"falling", func(b *api.Bundle) { slices.Reverse(b.Blobs) }, false},
		{"the first two turned", func(b *api.Bundle) { b.Blobs[0], b.Blobs[1] = b.Blobs[1], b.Blobs[0] }, false},
		{"the last two turned", func(b *api.Bundle) { b.Blobs[1], b.Blobs[2] = b.Blobs[2], b.Blobs[1] }, false},
		{"one more", func(b *api.Bundle) { b.Blobs = blobs("x", "yy", "", "z") }, false},
		{"one more of a size that is there", func(b *api.Bundle) { b.Blobs = blobs("x", "yy", "", "y") }, false},
		{"another one for one", func(b *api.Bundle) { b.Blobs = blobs("x", "yz", "") }, false},
		{"a longer one for one", func(b *api.Bundle) { b.Blobs = blobs("x", "yyy", "") }, false},
		{"a put of a lesser size", func(b *api.Bundle) { b.Events[2].Size = 1 }, false},
		{"a put of a greater size", func(b *api.Bundle) { b.Events[2].Size = 3 }, false},
		{"a put of the digest of another one", func(b *api.Bundle) { b.Events[0].Sum = b.Events[2].Sum }, false},
		{"one of two puts of a content, of another size", func(b *api.Bundle) { b.Events[3].Size = 2 }, false},
		{"the other one of two, of another size", func(b *api.Bundle) { b.Events[0].Size = 0 }, false},
		{"a put of a digest that is turned at its end", func(b *api.Bundle) { b.Events[0].Sum[31] ^= 1 }, false},
		{"a put of no digest", func(b *api.Bundle) { b.Events[4].Sum = api.Digest{} }, false},
		{"a delete for a put", func(b *api.Bundle) { b.Events[2] = del(1, 3, "0:2,1:2", "c") }, false},
		{"a delete for a put, and no blob", func(b *api.Bundle) { b.Events[2], b.Blobs = del(1, 3, "0:2,1:2", "c"), blobs("x", "") }, true},
		{"all of one content", func(b *api.Bundle) {
			b.Events[2], b.Events[4], b.Blobs = put(1, 3, "0:2,1:2", "c", "x"), put(2, 2, "2:1", "d", "x"), blobs("x")
		}, true},
		{"all empty", func(b *api.Bundle) {
			b.Events, b.Blobs = []api.Event{put(0, 2, "0:1", "a", ""), put(1, 2, "1:1", "b", "")}, [][]byte{nil}
		}, true},
		{"all of unlike contents", func(b *api.Bundle) {
			b.Events[3], b.Blobs = put(2, 1, "-", "c", "4"), blobs("x", "yy", "", "4")
		}, true},
		{"one as long as may be", func(b *api.Bundle) {
			b.Events[3], b.Blobs = put(2, 1, "-", "c", long[1:]), blobs("x", "yy", "", long[1:])
		}, true},
		{"one that is longer", func(b *api.Bundle) {
			b.Events[3], b.Blobs = put(2, 1, "-", "c", long), blobs("x", "yy", "", long)
		}, false},
	} {
		b := whole()
		c.turn(&b)
		may(t, b, 3, c.want, "blobs: %s", c.what)
	}
}

// TestP16_1MayManyBlobs has many contents, in an order of their digests' bytes, and with each two neighbours turned.
func TestP16_1MayManyBlobs(t *testing.T) {
	b := bare(0, -1, 1)
	var texts []string
	for i := range int64(99) {
		deps := "-"
		if i > 0 {
			deps = fmt.Sprintf("0:%d", i)
		}
		texts = append(texts, fmt.Sprint(i))
		b.Events = append(b.Events, put(0, i+1, deps, fmt.Sprintf("%02d", i), texts[i]))
	}
	b.Know, b.Acks, b.Blobs = v("0:99"), []api.Vec{v("0:99")}, blobs(texts...)
	may(t, b, 1, true, "many blobs")
	for i := range b.Blobs[1:] {
		b.Blobs[i], b.Blobs[i+1] = b.Blobs[i+1], b.Blobs[i]
		may(t, b, 1, false, "two neighbours turned")
		b.Blobs[i], b.Blobs[i+1] = b.Blobs[i+1], b.Blobs[i]
	}
	for i := range b.Blobs {
		c := b
		c.Blobs = slices.Delete(slices.Clone(b.Blobs), i, i+1)
		may(t, c, 1, false, "one missing")
	}
}

func TestP16_1Fresh(t *testing.T) {
	l := whole().Events
	for _, c := range []struct {
		l     []api.Event
		known api.Vec
		want  []int
	}{
		{l, nil, []int{0, 1, 2, 3, 4}},
		{l, v("0:1,1:1"), []int{0, 1, 2, 3, 4}},
		{l, v("0:2"), []int{1, 2, 3, 4}},
		{l, v("0:3"), []int{1, 2, 3, 4}},
		{l, v("1:2"), []int{0, 2, 3, 4}},
		{l, v("1:3"), []int{0, 3, 4}},
		{l, v("2:1"), []int{0, 1, 2, 4}},
		{l, v("2:2"), []int{0, 1, 2}},
		{l, v("0:1,1:2,2:1"), []int{0, 2, 4}},
		{l, v("0:2,1:3,2:2"), nil},
		{l, v("3:9,31:1099511627776"), []int{0, 1, 2, 3, 4}},
		// Of what is no vector its vector counts.
		{l, api.Vec{{Replica: 2, Seq: 1}, {Replica: 0, Seq: 2}}, []int{1, 2, 4}},
		{l, api.Vec{{Replica: 2, Seq: 2}, {Replica: 2, Seq: 1}}, []int{0, 1, 2}},
		{l, api.Vec{{Replica: 2, Seq: 1}, {Replica: 2, Seq: 2}}, []int{0, 1, 2}},
		{l, api.Vec{{Replica: 0, Seq: 1<<40 + 1}, {Replica: -1, Seq: 3}, {Replica: 32, Seq: 3}, {}}, []int{0, 1, 2, 3, 4}},
		{l, api.Vec{{Replica: 0, Seq: 1<<40 + 1}, {Replica: 0, Seq: 2}, {Replica: 0, Seq: -5}}, []int{1, 2, 3, 4}},
		{nil, v("0:9"), nil},
		{nil, nil, nil},
	} {
		var want []api.Event
		for _, i := range c.want {
			want = append(want, c.l[i])
		}
		tells(t, toldEvents(Fresh(c.l, c.known)), toldEvents(want), "Fresh(%v, %v)", c.l, c.known)
		tells(t, toldEvents(plainFresh(c.l, c.known)), toldEvents(want), "the plain telling of (%v, %v)", c.l, c.known)
	}
}

// TestP16_1FreshLoose has events that may not be, in any order and several times: they stay in turn, and no vector has a dot that may not be.
func TestP16_1FreshLoose(t *testing.T) {
	dots := []api.Dot{{}, {Replica: 0, Seq: 1}, {Replica: 0, Seq: 2}, {Replica: 1, Seq: 1}, {Replica: 31, Seq: 1 << 40}, {Replica: 0, Seq: -1}, {Replica: -1, Seq: 1}, {Replica: 32, Seq: 5}, {Replica: 1<<32 + 1, Seq: 1}, {Replica: 1, Seq: 1<<40 + 1}, {Replica: math.MinInt, Seq: math.MinInt64}, {Replica: math.MaxInt, Seq: math.MaxInt64}}
	for _, d := range dots {
		for _, known := range dots {
			want := 1
			if plainHas(api.Vec{known}, d) {
				want = 0
			}
			tells(t, len(Fresh([]api.Event{{Dot: d}}, api.Vec{known})), want, "the count of Fresh(%v, %v)", d, known)
		}
	}
	c := chain(163)
	for range 5000 {
		var l []api.Event
		for range c.below(12) {
			l = append(l, api.Event{Dot: of(&c, dots), Deps: api.Vec{of(&c, dots)}, Kind: c.below(4), Path: fmt.Sprint(c.below(9))})
		}
		known := turned(&c, dots)[:c.below(5)]
		tells(t, toldEvents(Fresh(l, known)), toldEvents(plainFresh(l, known)), "Fresh(%v, %v)", l, known)
	}
}

// TestP16_1Same has a bundle beside itself with each of its fields turned.
func TestP16_1Same(t *testing.T) {
	turns := map[string]func(b *api.Bundle){
		"from":             func(b *api.Bundle) { b.From = 0 },
		"to":               func(b *api.Bundle) { b.To = -1 },
		"id":               func(b *api.Bundle) { b.Id = 8 },
		"base":             func(b *api.Bundle) { b.Base[0].Seq = 2 },
		"base's replica":   func(b *api.Bundle) { b.Base[1].Replica = 2 },
		"no base":          func(b *api.Bundle) { b.Base = nil },
		"a shorter base":   func(b *api.Bundle) { b.Base = b.Base[:1] },
		"a longer base":    func(b *api.Bundle) { b.Base = append(b.Base, api.Dot{Replica: 2, Seq: 1}) },
		"know":             func(b *api.Bundle) { b.Know[2].Seq = 3 },
		"know's replica":   func(b *api.Bundle) { b.Know[2].Replica = 3 },
		"a shorter know":   func(b *api.Bundle) { b.Know = b.Know[:2] },
		"base as know":     func(b *api.Bundle) { b.Base, b.Know = b.Know, b.Base },
		"event's dot":      func(b *api.Bundle) { b.Events[4].Dot.Seq = 3 },
		"event's deps":     func(b *api.Bundle) { b.Events[4].Deps[0].Seq = 2 },
		"event's no deps":  func(b *api.Bundle) { b.Events[4].Deps = nil },
		"event's kind":     func(b *api.Bundle) { b.Events[0].Kind = 2 },
		"event's path":     func(b *api.Bundle) { b.Events[0].Path = "A" },
		"event's sum":      func(b *api.Bundle) { b.Events[0].Sum[31]++ },
		"event's size":     func(b *api.Bundle) { b.Events[0].Size++ },
		"fewer events":     func(b *api.Bundle) { b.Events = b.Events[:4] },
		"no events":        func(b *api.Bundle) { b.Events = nil },
		"one event twice":  func(b *api.Bundle) { b.Events[3] = b.Events[2] },
		"events turned":    func(b *api.Bundle) { b.Events[2], b.Events[3] = b.Events[3], b.Events[2] },
		"an ack":           func(b *api.Bundle) { b.Acks[0][0].Seq = 1 },
		"the last ack":     func(b *api.Bundle) { b.Acks[2][1].Seq = 1 },
		"no ack in a row":  func(b *api.Bundle) { b.Acks[0] = nil },
		"a row less":       func(b *api.Bundle) { b.Acks = b.Acks[:2] },
		"a row more":       func(b *api.Bundle) { b.Acks = append(b.Acks, nil) },
		"rows turned":      func(b *api.Bundle) { b.Acks[0], b.Acks[2] = b.Acks[2], b.Acks[0] },
		"no rows":          func(b *api.Bundle) { b.Acks = nil },
		"a blob's byte":    func(b *api.Bundle) { b.Blobs[0][0]++ },
		"a longer blob":    func(b *api.Bundle) { b.Blobs[1] = append(b.Blobs[1], 0) },
		"an empty blob":    func(b *api.Bundle) { b.Blobs[0] = nil },
		"a blob less":      func(b *api.Bundle) { b.Blobs = b.Blobs[:2] },
		"a blob more":      func(b *api.Bundle) { b.Blobs = append(b.Blobs, nil) },
		"blobs turned":     func(b *api.Bundle) { slices.Reverse(b.Blobs) },
		"no blobs":         func(b *api.Bundle) { b.Blobs = nil },
		"another one's":    func(b *api.Bundle) { *b = bare(0, -1, 3) },
		"nothing":          func(b *api.Bundle) { *b = api.Bundle{} },
		"base's odd order": func(b *api.Bundle) { slices.Reverse(b.Base) },
		"base's odd dots":  func(b *api.Bundle) { b.Base = append(b.Base, api.Dot{Replica: 40}) },
		"an ack's odd row": func(b *api.Bundle) { b.Acks[1] = append(b.Acks[1], b.Acks[1][2]) },
		"a dep's odd dots": func(b *api.Bundle) { b.Events[0].Deps = append(b.Events[0].Deps, api.Dot{}) },
		"know's odd dots":  func(b *api.Bundle) { b.Know = append(b.Know, b.Know[2]) },
	}
	turns["as it is"] = func(*api.Bundle) {}
	for name, turn := range turns {
		for other, turnOther := range turns {
			a, b := whole(), whole()
			turn(&a)
			turnOther(&b)
			tells(t, Same(a, b), name == other, "Same of %q and %q", name, other)
			tells(t, told(a) == told(b), name == other, "the plain telling of %q and %q", name, other)
		}
	}
	tells(t, Same(api.Bundle{}, api.Bundle{}), true, "Same of nothing and nothing")
}

func TestP16_2Examples(t *testing.T) {
	know := v("0:1")
	b := api.Bundle{From: 0, To: -1, Id: 1, Know: know, Events: []api.Event{put(0, 1, "-", "a", "x")}, Acks: []api.Vec{know, nil}}
	made, e := Make(b, [][]byte{[]byte("x")}, 2)
	tells(t, e, api.OK, "the error of the example")
	tells(t, len(made.Events), 1, "the count of events of the example")
	tells(t, len(made.Blobs), 1, "the count of blobs of the example")
	tells(t, string(made.Blobs[0]), "x", "the blob of the example")
	b.Base = know
	made, e = Make(b, nil, 2)
	tells(t, e, api.OK, "the error of the example, all known")
	tells(t, len(made.Events), 0, "the count of events of the example, all known")
	tells(t, len(made.Blobs), 0, "the count of blobs of the example, all known")
}

// TestP16_2Made has what is known, with several bases: all stays but the events and the blobs.
func TestP16_2Made(t *testing.T) {
	contents := [][]byte{[]byte("z"), []byte("x"), []byte("yy"), []byte("y"), []byte("x"), nil, []byte("more")}
	for _, c := range []struct {
		base   string
		events []int
		blobs  [][]byte
	}{
		{"-", []int{0, 1, 2, 3, 4}, blobs("x", "yy", "")},
		{"0:1,1:1", []int{0, 1, 2, 3, 4}, blobs("x", "yy", "")},
		{"0:2", []int{1, 2, 3, 4}, blobs("x", "yy", "")},
		{"2:1", []int{0, 1, 2, 4}, blobs("x", "yy", "")},
		{"0:2,2:1", []int{1, 2, 4}, blobs("yy", "")},
		{"1:2", []int{0, 2, 3, 4}, blobs("x", "yy", "")},
		{"1:3", []int{0, 3, 4}, blobs("x", "")},
		{"2:2", []int{0, 1, 2}, blobs("x", "yy")},
		{"1:3,2:2", []int{0}, blobs("x")},
		{"0:2,1:1,2:2", []int{1, 2}, blobs("yy")},
		{"0:2,1:2,2:1", []int{2, 4}, blobs("yy", "")},
		{"0:2,1:3,2:1", []int{4}, blobs("")},
		{"0:2,1:3,2:2", nil, nil},
	} {
		b := whole()
		b.Base = v(c.base)
		// What blobs come in beside it counts for nothing.
		b.Blobs = [][]byte{[]byte("yy"), []byte("odd")}
		want := b
		want.Events, want.Blobs = nil, c.blobs
		for _, i := range c.events {
			want.Events = append(want.Events, b.Events[i])
		}
		made, e := Make(b, contents, 3)
		tells(t, e, api.OK, "the error of Make with the base %s", c.base)
		tells(t, told(made), told(want), "Make with the base %s", c.base)
		makes(t, b, contents, 3)
		turned := slices.Clone(contents)
		slices.Reverse(turned)
		again, _ := Make(b, turned, 3)
		tells(t, told(again), told(want), "Make with the base %s, of contents from behind", c.base)
	}
}

// TestP16_2None has contents of which one is missing, whatever else is wrong.
func TestP16_2None(t *testing.T) {
	refuses := func(b api.Bundle, contents [][]byte, n int, want api.Errno, what string) {
		t.Helper()
		made, e := Make(b, contents, n)
		tells(t, e, want, "the error of Make: %s", what)
		tells(t, told(made), told(api.Bundle{}), "what is told beside the error: %s", what)
		makes(t, b, contents, n)
	}
	b, all := whole(), blobs("x", "yy", "")
	for i := range all {
		short := slices.Delete(slices.Clone(all), i, i+1)
		refuses(b, short, 3, api.ErrNone, "one missing")
		refuses(b, append(short, []byte("z"), []byte("zz"), []byte("yyy"), []byte{0}), 3, api.ErrNone, "others for one missing")
	}
	refuses(b, nil, 3, api.ErrNone, "all missing")
	none := b
	none.Blobs = all
	refuses(none, nil, 3, api.ErrNone, "the bundle's own blobs")
	for _, turn := range []func(e *api.Event){
		func(e *api.Event) { e.Size++ },
		func(e *api.Event) { e.Size-- },
		func(e *api.Event) { e.Size = -e.Size },
		func(e *api.Event) { e.Size = math.MaxInt },
		func(e *api.Event) { e.Sum[0] ^= 128 },
		func(e *api.Event) { e.Sum[31] ^= 1 },
		func(e *api.Event) { e.Sum = api.Digest{} },
	} {
		turned := whole()
		turn(&turned.Events[2])
		refuses(turned, all, 3, api.ErrNone, "a put of no content")
		// What the base knows needs none.
		turned.Base = v("1:3")
		tells(t, makes(t, turned, all, 3), api.OK, "the error of Make of a known put of no content")
	}
	// A content that is missing is told ahead of what may not be.
	odd := b
	odd.Id, odd.From = 0, 9
	refuses(odd, all[1:], 3, api.ErrNone, "one missing, and what may not be")
	refuses(odd, all, 3, api.ErrArg, "what may not be")
	refuses(b, all[1:], 0, api.ErrNone, "one missing, and no roster")
	refuses(b, all, 0, api.ErrArg, "no roster")
	refuses(b, nil, 33, api.ErrNone, "all missing, and no roster")
	refuses(api.Bundle{}, nil, 1, api.ErrArg, "nothing")
	refuses(api.Bundle{}, all, 0, api.ErrArg, "nothing")
	// A delete that may not be needs no content, whatever it has.
	odd = whole()
	odd.Events[1].Size = 77
	refuses(odd, all, 3, api.ErrArg, "a delete of a size")
	odd.Events[1].Kind = 3
	refuses(odd, all, 3, api.ErrArg, "an event of no kind")
	// A content longer than may be is there, and may not be.
	long := string(make([]byte, 65537))
	odd = whole()
	odd.Events[2] = put(1, 3, "0:2,1:2", "c", long)
	refuses(odd, blobs("x", "", long[1:]), 3, api.ErrNone, "a long content missing")
	refuses(odd, blobs("x", "", long), 3, api.ErrArg, "a long content")
}

// TestP16_2Arg has each part of a bundle that may not be, all contents being there.
func TestP16_2Arg(t *testing.T) {
	for i, c := range []struct {
		turn func(b *api.Bundle)
		want api.Errno
	}{
		{func(b *api.Bundle) {}, api.OK},
		{func(b *api.Bundle) { b.From = 0 }, api.ErrArg},
		{func(b *api.Bundle) { b.From = -1 }, api.ErrArg},
		{func(b *api.Bundle) { b.To = 1 }, api.ErrArg},
		{func(b *api.Bundle) { b.To = 3 }, api.ErrArg},
		{func(b *api.Bundle) { b.To = -2 }, api.ErrArg},
		{func(b *api.Bundle) { b.Id = 1<<40 + 1 }, api.ErrArg},
		{func(b *api.Bundle) { b.Base = v("0:3") }, api.ErrArg},
		{func(b *api.Bundle) { slices.Reverse(b.Base) }, api.ErrArg},
		{func(b *api.Bundle) { b.Know = v("0:2,1:3,2:3") }, api.ErrArg},
		{func(b *api.Bundle) { b.Know = v("0:2,1:3"); b.Acks[1] = b.Know }, api.ErrArg},
		{func(b *api.Bundle) { slices.Reverse(b.Events) }, api.ErrArg},
		{func(b *api.Bundle) { b.Events[4] = put(2, 2, "0:9,2:1", "d", "") }, api.ErrArg},
		{func(b *api.Bundle) { b.Acks = b.Acks[:2] }, api.ErrArg},
		{func(b *api.Bundle) { b.Acks[0] = api.Vec{{}} }, api.ErrArg},
		{func(b *api.Bundle) { b.Acks[1] = v("0:2,1:3") }, api.ErrArg},
		{func(b *api.Bundle) { b.Acks[2] = v("3:1") }, api.ErrArg},
		// What the base knows may be as it likes, for it goes out.
		{func(b *api.Bundle) { b.Events[0].Path, b.Base = "", v("0:2") }, api.OK},
		{func(b *api.Bundle) { b.Events[0].Deps, b.Base = v("0:9"), v("0:2") }, api.OK},
		{func(b *api.Bundle) { b.Events, b.Base = slices.Insert(b.Events, 3, b.Events[0]), v("0:2") }, api.OK},
		{func(b *api.Bundle) { b.Events[1].Kind, b.Base = 7, v("1:2") }, api.OK},
		// What blobs come in may be as they like.
		{func(b *api.Bundle) { b.Blobs = blobs("z", "z", "z") }, api.OK},
	} {
		b := whole()
		c.turn(&b)
		tells(t, makes(t, b, blobs("x", "yy", "", "z"), 3), c.want, "the error of Make, at %d", i)
	}
	for _, n := range []int{math.MinInt, -1, 0, 1, 2, 4, 32, 33, math.MaxInt} {
		tells(t, makes(t, whole(), blobs("x", "yy", ""), n), api.ErrArg, "the error of Make of %d", n)
	}
}

var names = []string{"a", "a-b", "a/b", "a/b/c", "b"}

// past is the events of a history, their puts' contents, and what each of its replicas knows.
type past struct {
	events   []api.Event
	contents [][]byte
	known    []api.Vec
}

// history is the past of so many replicas: each makes some of what it knows, and they tell each other all they know.
func history(t *testing.T, c *chain, replicas, steps int) past {
	t.Helper()
	p := past{known: make([]api.Vec, replicas)}
	for range steps {
		r, other := c.below(replicas), c.below(replicas)
		if c.below(3) == 0 {
			p.known[r] = vec.Join(p.known[r], p.known[other])
			continue
		}
		data := fmt.Appendf(nil, "%0*d", c.below(4), c.below(20))
		e := api.Event{Dot: api.Dot{Replica: r, Seq: vec.Get(p.known[r], r) + 1}, Deps: p.known[r], Kind: api.Put, Path: of(c, names), Sum: sha256.Sum256(data), Size: len(data)}
		if c.below(3) == 0 {
			e.Kind, e.Sum, e.Size = api.Delete, api.Digest{}, 0
		} else {
			p.contents = append(p.contents, data)
		}
		tells(t, event.May(e), true, "event.May(%v)", e)
		p.known[r] = vec.With(p.known[r], e.Dot)
		p.events = append(p.events, e)
	}
	return p
}

// headsOf is the heads of all that v knows.
func (p past) headsOf(v api.Vec) []api.Event {
	return heads.Join(nil, slices.DeleteFunc(slices.Clone(p.events), func(e api.Event) bool { return !vec.Has(v, e.Dot) }))
}

// bundle is what a replica tells of its past, ahead of Make.
func (p past) bundle(c *chain) api.Bundle {
	n := len(p.known)
	b := api.Bundle{From: c.below(n), Id: 1 + int64(c.below(99))}
	if b.To = c.below(n); b.To == b.From {
		b.To = -1
	}
	b.Know = p.known[b.From]
	b.Events = p.headsOf(b.Know)
	for replica := range p.known {
		b.Acks = append(b.Acks, vec.Meet(p.known[replica], of(c, p.known)))
	}
	b.Acks[b.From] = slices.Clone(b.Know)
	b.Base = vec.Meet(b.Know, of(c, p.known))
	if c.below(4) == 0 {
		b.Base = nil
	}
	return b
}

// TestP16_3 has what replicas of histories tell: what is made may be, it has just what its base doesn't know, and no more contents than that needs.
func TestP16_3(t *testing.T) {
	c := chain(167)
	events, fewer, contents := 0, 0, 0
	for range 1500 {
		n := 1 + c.below(6)
		p := history(t, &c, n, 4+c.below(40))
		b := p.bundle(&c)
		made, e := Make(b, turned(&c, append(blobs("other", "01", "z"), p.contents...)), n)
		tells(t, e, api.OK, "the error of Make(%s)", told(b))
		may(t, made, n, true, "what is made")
		for _, x := range made.Events {
			tells(t, plainHas(made.Base, x.Dot), false, "whether the base knows %v", x)
		}
		for _, x := range b.Events {
			in := slices.ContainsFunc(made.Events, func(y api.Event) bool { return event.Same(x, y) })
			tells(t, in, !plainHas(b.Base, x.Dot), "whether %v was told, of %s", x, told(b))
		}
		puts := plainPuts(made.Events)
		for _, blob := range made.Blobs {
			tells(t, slices.ContainsFunc(puts, func(x api.Event) bool { return fits(x, blob) }), true, "whether %q was needed, of %s", blob, told(made))
		}
		rest := made
		rest.Events, rest.Blobs = b.Events, b.Blobs
		tells(t, told(rest), told(b), "what is made, but for events and blobs")
		// Whoever knows Base knows Know with it.
		tells(t, toldEvents(heads.Join(p.headsOf(made.Base), made.Events)), toldEvents(p.headsOf(made.Know)), "the heads of who knows the base, and is told %s", told(made))
		// Made once more, of its own contents, it stays.
		again, e := Make(made, made.Blobs, n)
		tells(t, e, api.OK, "the error of Make, once more")
		tells(t, Same(again, made), true, "Same of what is made and what is made of it")
		tells(t, told(again), told(made), "what is made once more")
		for i := range made.Blobs {
			tells(t, makes(t, made, slices.Delete(slices.Clone(made.Blobs), i, i+1), n), api.ErrNone, "the error of Make without one")
		}
		events, fewer, contents = events+len(made.Events), fewer+len(b.Events)-len(made.Events), contents+len(made.Blobs)
	}
	if events < 2000 || fewer < 1000 || contents < 1000 {
		t.Errorf("too few of a kind: %d, %d, %d", events, fewer, contents)
	}
}

// turnVector turns something of v.
func turnVector(c *chain, v api.Vec) api.Vec {
	v = slices.Clone(v)
	odd := api.Dot{Replica: c.below(8) - 1, Seq: int64(c.below(6)) - 1}
	switch {
	case len(v) == 0 || c.below(4) == 0:
		return slices.Insert(v, c.below(len(v)+1), odd)
	case c.below(3) == 0:
		i := c.below(len(v))
		return slices.Delete(v, i, i+1)
	case c.below(8) == 0:
		v[c.below(len(v))] = odd
	default:
		v[c.below(len(v))].Seq += int64(c.below(3)) - 1
	}
	return v
}

// turnEvent turns something of e.
func turnEvent(c *chain, e api.Event) api.Event {
	switch c.below(7) {
	case 0:
		e.Dot.Seq += int64(c.below(3)) - 1
	case 1:
		e.Dot.Replica = c.below(8) - 1
	case 2:
		e.Deps = turnVector(c, e.Deps)
	case 3:
		e.Kind = c.below(4)
	case 4:
		e.Path = of(c, append(names, "", "a~0-1"))
	case 5:
		e.Sum[c.below(32)] ^= byte(c.below(2))
	case 6:
		e.Size += c.below(3) - 1
	}
	return e
}

// turnList turns something of l, one of which is turned by turn.
func turnList[T any](c *chain, l []T, turn func(c *chain, item T) T) []T {
	l = slices.Clone(l)
	if len(l) == 0 {
		return l
	}
	i, j := c.below(len(l)), c.below(len(l))
	switch c.below(5) {
	case 0:
		l[i], l[j] = l[j], l[i]
	case 1:
		l = slices.Delete(l, i, i+1)
	case 2:
		l = slices.Insert(l, i, l[j])
	default:
		l[i] = turn(c, l[i])
	}
	return l
}

// turnBundle turns something of b.
func turnBundle(c *chain, b api.Bundle) api.Bundle {
	switch c.below(9) {
	case 0:
		b.From = c.below(8) - 1
	case 1:
		b.To = c.below(9) - 2
	case 2:
		b.Id = int64(c.below(3))
	case 3:
		b.Base = turnVector(c, b.Base)
	case 4:
		b.Know = turnVector(c, b.Know)
		if c.below(2) == 0 && b.From >= 0 && b.From < len(b.Acks) {
			b.Acks = slices.Clone(b.Acks)
			b.Acks[b.From] = slices.Clone(b.Know)
		}
	case 5, 6:
		b.Events = turnList(c, b.Events, turnEvent)
	case 7:
		b.Acks = turnList(c, b.Acks, turnVector)
	case 8:
		b.Blobs = turnList(c, b.Blobs, func(c *chain, blob []byte) []byte { return append(slices.Clone(blob), byte(c.below(256))) })
	}
	return b
}

// TestP16Turned has bundles of histories of which something, or some things, are turned: all calls tell what the chapter's words have.
func TestP16Turned(t *testing.T) {
	c := chain(173)
	mays, errors := map[bool]int{}, map[api.Errno]int{}
	for range 4000 {
		n := 1 + c.below(6)
		p := history(t, &c, n, 4+c.below(20))
		made, e := Make(p.bundle(&c), p.contents, n)
		tells(t, e, api.OK, "the error of Make")
		for range 5 {
			b := made
			for range 1 + c.below(3) {
				b = turnBundle(&c, b)
			}
			if c.below(9) == 0 {
				n += c.below(3) - 1
			}
			want := plainMay(b, n)
			may(t, b, n, want, "turned")
			mays[want]++
			tells(t, Same(made, b), told(made) == told(b), "Same(%s, %s)", told(made), told(b))
			tells(t, toldEvents(Fresh(b.Events, b.Base)), toldEvents(plainFresh(b.Events, b.Base)), "Fresh of %s", told(b))
			contents := turned(&c, slices.Concat(b.Blobs, p.contents[:c.below(len(p.contents)+1)]))
			errors[makes(t, b, contents, n)]++
		}
	}
	if mays[true] < 1000 || mays[false] < 5000 || errors[api.OK] < 1000 || errors[api.ErrArg] < 2000 || errors[api.ErrNone] < 500 {
		t.Errorf("too few of a kind: %v, %v", mays, errors)
	}
}

// TestR2NilAndEmpty holds that nothing is nothing, whichever way.
func TestR2NilAndEmpty(t *testing.T) {
	full := whole()
	vectors := []api.Vec{nil, {}, make(api.Vec, 0, 9), full.Know[:0]}
	lists := [][]api.Event{nil, {}, make([]api.Event, 0, 9), full.Events[:0]}
	contents := [][][]byte{nil, {}, make([][]byte, 0, 9), full.Blobs[:0]}
	for i := range vectors {
		b := api.Bundle{To: -1, Id: 1, Base: vectors[i], Know: vectors[(i+1)%4], Events: lists[i], Acks: []api.Vec{vectors[(i+2)%4]}, Blobs: contents[i]}
		may(t, b, 1, true, "nothing")
		tells(t, Same(b, bare(0, -1, 1)), true, "Same of nothing")
		tells(t, Same(bare(0, -1, 1), b), true, "Same of nothing")
		for j := range contents {
			made, e := Make(b, contents[j], 1)
			tells(t, e, api.OK, "the error of Make of nothing")
			tells(t, told(made), told(bare(0, -1, 1)), "Make of nothing")
			tells(t, len(Fresh(lists[i], vectors[j])), 0, "the count of Fresh of nothing")
		}
		tells(t, toldEvents(Fresh(full.Events, vectors[i])), toldEvents(full.Events), "Fresh of what knows nothing")
		x := full
		x.Events = slices.Clone(full.Events)
		x.Events[3].Deps = vectors[i]
		may(t, x, 3, true, "an event that knows nothing")
		tells(t, Same(x, full), true, "Same of an event that knows nothing")
	}
	tells(t, Same(api.Bundle{Acks: []api.Vec{}, Blobs: [][]byte{}, Base: api.Vec{}}, api.Bundle{Events: []api.Event{}, Know: api.Vec{}}), true, "Same of nothing")
	for _, data := range [][]byte{nil, {}, make([]byte, 0, 9), []byte("x")[:0]} {
		b := bare(0, -1, 1)
		b.Know, b.Acks, b.Events, b.Blobs = v("0:1"), []api.Vec{v("0:1")}, []api.Event{put(0, 1, "-", "a", "")}, [][]byte{data}
		may(t, b, 1, true, "an empty content")
		made, e := Make(b, [][]byte{data}, 1)
		tells(t, e, api.OK, "the error of Make with an empty content")
		tells(t, Same(made, b), true, "Same of empty contents")
		tells(t, told(made), told(b), "Make with an empty content")
	}
}

// roomyList is l with room behind it in which more stands.
func roomyList[T any](l []T, more ...T) []T {
	return append(slices.Clone(l), more...)[:len(l)]
}

// roomy is b, and contents, with room behind each of their lists in which more stands.
func roomy(b api.Bundle, contents [][]byte) (api.Bundle, [][]byte) {
	d := api.Dot{Replica: 5, Seq: 5}
	b.Base, b.Know = roomyList(b.Base, d, d), roomyList(b.Know, d, d)
	b.Events = roomyList(b.Events, del(9, 1, "-", "behind"))
	for i, e := range b.Events {
		b.Events[i].Deps = roomyList(e.Deps, d)
	}
	b.Acks = roomyList(b.Acks, v("0:77"))
	for i, row := range b.Acks {
		b.Acks[i] = roomyList(row, d)
	}
	b.Blobs, contents = roomyList(b.Blobs, []byte("behind")), roomyList(contents, []byte("x"))
	for _, l := range [][][]byte{b.Blobs, contents} {
		for i, blob := range l {
			l[i] = roomyList(blob, 'm', 'o', 'r', 'e')
		}
	}
	return b, contents
}

// allOf is all of b and of contents, room included.
func allOf(b api.Bundle, contents [][]byte) string {
	room := b
	room.Base, room.Know = b.Base[:cap(b.Base)], b.Know[:cap(b.Know)]
	room.Events = slices.Clone(b.Events[:cap(b.Events)])
	for i, e := range room.Events {
		room.Events[i].Deps = e.Deps[:cap(e.Deps)]
	}
	room.Acks = slices.Clone(b.Acks[:cap(b.Acks)])
	for i, row := range room.Acks {
		room.Acks[i] = row[:cap(row)]
	}
	room.Blobs = slices.Concat(b.Blobs[:cap(b.Blobs)], contents[:cap(contents)])
	for i, blob := range room.Blobs {
		room.Blobs[i] = blob[:cap(blob)]
	}
	return told(room)
}

// spoilEvents changes all of l, room included.
func spoilEvents(l []api.Event) {
	for _, e := range l {
		spoilVector(e.Deps)
	}
	clear(l[:cap(l)])
}

// spoilVector changes all of v, room included.
func spoilVector(v api.Vec) {
	for i := range v[:cap(v)] {
		v[:cap(v)][i] = api.Dot{Replica: -9, Seq: -9}
	}
}

// spoilBlobs changes all of l, room included.
func spoilBlobs(l [][]byte) {
	for _, blob := range l {
		for i := range blob[:cap(blob)] {
			blob[:cap(blob)][i] ^= 255
		}
	}
	clear(l[:cap(l)])
}

// spoil changes all of b, room included.
func spoil(b api.Bundle) {
	spoilVector(b.Base)
	spoilVector(b.Know)
	spoilEvents(b.Events)
	for _, row := range b.Acks {
		spoilVector(row)
	}
	clear(b.Acks[:cap(b.Acks)])
	spoilBlobs(b.Blobs)
}

// TestR3NothingChanged holds that what is handed in stays as it is, room behind included.
func TestR3NothingChanged(t *testing.T) {
	for _, base := range []string{"-", "0:1", "0:2,2:1", "0:2,1:3,2:2"} {
		for _, n := range []int{3, 2} {
			b, contents := roomy(whole(), [][]byte{[]byte("z"), []byte("yy"), []byte("x"), nil, []byte("x")})
			b.Base = roomyList(v(base), api.Dot{Replica: 5, Seq: 5})
			was := allOf(b, contents)
			May(b, n)
			Same(b, b)
			Fresh(b.Events, b.Base)
			Make(b, contents, n)
			Make(b, contents[:1], n)
			tells(t, allOf(b, contents), was, "what was handed in, with the base %s", base)
		}
	}
}

// TestR3NothingShared holds that spoiling what is told changes nothing else, and that spoiling what was handed in changes nothing told.
func TestR3NothingShared(t *testing.T) {
	b, contents := roomy(whole(), [][]byte{[]byte("z"), []byte("yy"), []byte("x"), nil, []byte("x")})
	was := allOf(b, contents)
	fresh, keptFresh := Fresh(b.Events, nil), Fresh(b.Events, nil)
	spoilEvents(fresh)
	tells(t, allOf(b, contents), was, "what was handed in, with Fresh's answer spoilt")
	tells(t, toldEvents(keptFresh), toldEvents(whole().Events), "Fresh, with another one of its answers spoilt")

	made, e := Make(b, contents, 3)
	tells(t, e, api.OK, "the error of Make")
	kept, _ := Make(b, contents, 3)
	spoil(made)
	tells(t, allOf(b, contents), was, "what was handed in, with Make's answer spoilt")
	tells(t, told(kept), told(whole()), "Make, with another one of its answers spoilt")

	spoil(b)
	spoilBlobs(contents)
	tells(t, toldEvents(keptFresh), toldEvents(whole().Events), "Fresh's answer, with what was handed in spoilt")
	tells(t, told(kept), told(whole()), "Make's answer, with what was handed in spoilt")
}

// TestR3ListsApart holds that no two lists of one answer are shared, even if those that were handed in are.
func TestR3ListsApart(t *testing.T) {
	shared := v("0:9,1:9")
	l := []api.Event{put(2, 1, "-", "a", ""), put(3, 1, "-", "b", "")}
	l[0].Deps, l[1].Deps = shared, shared
	fresh := Fresh(l, nil)
	spoilVector(fresh[0].Deps)
	tells(t, toldEvents(fresh[1:]), toldEvents(l[1:]), "Fresh, with the deps of its first one spoilt")

	bytes := []byte("xx")
	b := bare(0, -1, 4)
	b.Know = v("0:2")
	b.Base, b.Acks = b.Know[:0], []api.Vec{b.Know, b.Know, b.Know[:1], b.Know}
	b.Events = []api.Event{put(0, 1, "-", "a", "x"), put(0, 2, "0:1", "b", "xx")}
	made, e := Make(b, [][]byte{bytes, bytes[:1]}, 4)
	tells(t, e, api.OK, "the error of Make")
	spoilVector(made.Know)
	made.Know = v("0:2")
	for i := range made.Acks {
		spoilVector(made.Acks[i])
		made.Acks[i] = slices.Clone(b.Acks[i])
	}
	b.Blobs = blobs("x", "xx")
	tells(t, told(made), told(b), "Make, with lists spoilt and put back")
	short, long := slices.IndexFunc(made.Blobs, func(x []byte) bool { return len(x) == 1 }), slices.IndexFunc(made.Blobs, func(x []byte) bool { return len(x) == 2 })
	made.Blobs[long][0] = 'y'
	tells(t, string(made.Blobs[short]), "x", "a blob, with another one spoilt")
}

// TestR4SameAgain holds that what is told is the same each time.
func TestR4SameAgain(t *testing.T) {
	c := chain(179)
	p := history(t, &c, 3, 300)
	b := p.bundle(&c)
	b.Base = nil
	made, e := Make(b, p.contents, 3)
	tells(t, e, api.OK, "the error of Make")
	for range 50 {
		again, _ := Make(b, turned(&c, p.contents), 3)
		tells(t, told(again), told(made), "Make again")
	}
}

// TestP1Many has as many events and contents as a bundle could have, and more dots than any vector: calls end, and soon.
func TestP1Many(t *testing.T) {
	const n = 1 << 16
	b := bare(0, -1, 2)
	var contents [][]byte
	for i := range n {
		data := fmt.Sprint(i % 999)
		e := api.Event{Dot: api.Dot{Replica: 0, Seq: int64(i) + 1}, Kind: api.Put, Path: fmt.Sprintf("%06d", i), Sum: sha256.Sum256([]byte(data)), Size: len(data)}
		if i > 0 {
			e.Deps = api.Vec{{Replica: 0, Seq: int64(i)}}
		}
		b.Events, contents = append(b.Events, e), append(contents, []byte(data))
	}
	b.Know = api.Vec{{Replica: 0, Seq: n}}
	b.Acks[0] = b.Know
	made, e := Make(b, contents, 2)
	tells(t, e, api.OK, "the error of Make of many")
	tells(t, len(made.Events), n, "the count of events")
	tells(t, len(made.Blobs), 999, "the count of blobs")
	tells(t, May(made, 2), true, "May of many")
	tells(t, Same(made, made), true, "Same of many")
	made.Blobs = contents
	tells(t, May(made, 2), false, "May of many blobs")
	_, e = Make(b, contents[1:999], 2)
	tells(t, e, api.ErrNone, "the error of Make of many, without one")
	b.Base = api.Vec{{Replica: 0, Seq: n - 1}}
	made, e = Make(b, contents[n-1:], 2)
	tells(t, e, api.OK, "the error of Make of the last one")
	tells(t, len(made.Events), 1, "the count of events, all but the last one known")

	long := make(api.Vec, n)
	for i := range long {
		long[i] = api.Dot{Replica: i % 40, Seq: int64(i % 77)}
	}
	tells(t, len(Fresh(b.Events, long)), n-76, "the count of Fresh of a vector of many dots")
	b.Base = long
	_, e = Make(b, contents, 2)
	tells(t, e, api.ErrArg, "the error of Make with a base of many dots")
	tells(t, May(b, 2), false, "May with a base of many dots")

	// Long contents of sizes that none asks for don't take long.
	megabytes := make([]byte, 1<<24)
	many := slices.Repeat([][]byte{megabytes}, n)
	b = whole()
	made, e = Make(b, append(many, blobs("x", "yy", "")...), 3)
	tells(t, e, api.OK, "the error of Make with long contents")
	tells(t, told(made), told(whole()), "Make with long contents")
}
