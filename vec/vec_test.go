package vec

import (
	"fmt"
	"maps"
	"math"
	"slices"
	"strconv"
	"strings"
	"testing"

	"bindle/api"
)

// chain tells numbers of a fixed rule, one after the other.
type chain uint64

func (c *chain) word() uint64 {
	*c = *c*6364136223846793005 + 1442695040888963407
	return uint64(*c) ^ uint64(*c)>>33
}

// below is one of the fixed rule, from 0 to n-1.
func (c *chain) below(n int) int {
	return int(c.word() >> 9 % uint64(n))
}

// of is one of l.
func of[T any](c *chain, l []T) T {
	return l[c.below(len(l))]
}

// The numbers near to the limits, and such as wrap round to those within if they are cut to fewer bits.
var (
	oddReplicas = []int{math.MinInt, -1 << 32, -32, -2, -1, 32, 33, 40, 63, 64, 256, 1 << 31, 1 << 32, 1<<32 + 5, math.MaxInt}
	oddSeqs     = []int64{math.MinInt64, -1 << 40, -2, -1, 0, 1<<40 + 1, 1 << 41, 1<<62 + 1, math.MaxInt64}
	goodSeqs    = []int64{1, 2, 3, 9, 10, 1<<32 - 1, 1 << 32, 1<<32 + 1, 1<<40 - 1, 1 << 40}
)

// full has the dot with that number of each replica.
func full(seq int64) api.Vec {
	var v api.Vec
	for replica := range 32 {
		v = append(v, api.Dot{Replica: replica, Seq: seq})
	}
	return v
}

// good is a vector of the fixed rule: few replicas, or many.
func good(c *chain) api.Vec {
	v := api.Vec{}
	often := 1 + c.below(12)
	for replica := range 32 {
		if c.below(often) == 0 {
			v = append(v, api.Dot{Replica: replica, Seq: of(c, goodSeqs)})
		}
	}
	return v
}

// odd is dots of the fixed rule, in any order, some of one replica, some that may not be.
func odd(c *chain) api.Vec {
	v := api.Vec{}
	replicas := 1 + c.below(32)
	for range c.below(50) {
		d := api.Dot{Replica: c.below(replicas), Seq: of(c, goodSeqs)}
		switch c.below(6) {
		case 0:
			d.Replica = of(c, oddReplicas)
		case 1:
			d.Seq = of(c, oddSeqs)
		}
		v = append(v, d)
	}
	return v
}

// vectors is all kinds: none, one dot, all replicas, and vectors and other dots of the fixed rule.
func vectors() []api.Vec {
	l := []api.Vec{nil, {}, full(1), full(1 << 40), full(1<<40 + 1), full(0), slices.Concat(full(2), full(7), full(1)), {{Replica: 31, Seq: 1}, {Replica: 0, Seq: 1}}}
	for _, replica := range append([]int{0, 1, 15, 30, 31}, oddReplicas...) {
		for _, seq := range slices.Concat(goodSeqs, oddSeqs) {
			l = append(l, api.Vec{{Replica: replica, Seq: seq}})
		}
	}
	c := chain(11)
	for range 300 {
		l = append(l, good(&c), odd(&c))
	}
	return l
}

// plain is of each replica how many events v's vector knows, told by the chapter's words.
func plain(v api.Vec) map[int]int64 {
	m := map[int]int64{}
	for _, d := range v {
		if d.Replica >= 0 && d.Replica <= 31 && d.Seq >= 1 && d.Seq <= 1<<40 && d.Seq > m[d.Replica] {
			m[d.Replica] = d.Seq
		}
	}
	return m
}

// vectorOf is the vector that knows what m tells.
func vectorOf(m map[int]int64) api.Vec {
	var v api.Vec
	for replica := range 32 {
		if m[replica] != 0 {
			v = append(v, api.Dot{Replica: replica, Seq: m[replica]})
		}
	}
	return v
}

// plainMay tells whether v is a vector, told by the chapter's words: each two dots stand by replicas.
func plainMay(v api.Vec) bool {
	for i, d := range v {
		if d.Replica < 0 || d.Replica > 31 || d.Seq < 1 || d.Seq > 1<<40 {
			return false
		}
		for _, ahead := range v[:i] {
			if ahead.Replica >= d.Replica {
				return false
			}
		}
	}
	return true
}

// plainText is the text of v's vector, told by the standard library.
func plainText(v api.Vec) string {
	s := ""
	for _, d := range vectorOf(plain(v)) {
		s += fmt.Sprintf(",%d:%d", d.Replica, d.Seq)
	}
	if s == "" {
		return "-"
	}
	return s[1:]
}

// plainParse is the vector of which s is the text: whatever the standard library reads, if it has that text.
func plainParse(s string) (api.Vec, bool) {
	var v api.Vec
	for _, text := range strings.Split(s, ",") {
		first, second, _ := strings.Cut(text, ":")
		replica, _ := strconv.Atoi(first)
		seq, _ := strconv.ParseInt(second, 10, 64)
		v = append(v, api.Dot{Replica: replica, Seq: seq})
	}
	v = vectorOf(plain(v))
	return v, plainText(v) == s
}

// is holds that got has the dots of want, in that order, and no others.
func is(t *testing.T, got, want api.Vec, what string, args ...any) {
	t.Helper()
	if !slices.Equal(got, want) {
		t.Fatalf("%s = %d, not %d", fmt.Sprintf(what, args...), got, want)
	}
}

// tells holds that got is want.
func tells[T comparable](t *testing.T, got, want T, what string, args ...any) {
	t.Helper()
	if got != want {
		t.Fatalf("%s = %v, not %v", fmt.Sprintf(what, args...), got, want)
	}
}

// noVector holds that s is the text of none.
func noVector(t *testing.T, s string) {
	t.Helper()
	if v, e := Parse(s); v != nil || e != api.ErrForm {
		t.Fatalf("Parse(%.99q) = %d, %d", s, v, e)
	}
}

// parsed holds that s is the text of v, and v the vector of s.
func parsed(t *testing.T, s string, v api.Vec) {
	t.Helper()
	tells(t, Text(v), s, "Text(%d)", v)
	got, e := Parse(s)
	is(t, got, v, "Parse(%q)", s)
	tells(t, e, api.OK, "the error of Parse(%q)", s)
}

// holds holds that s is parsed as the chapter's words have it, and tells whether it is a vector's text.
func holds(t *testing.T, s string) bool {
	t.Helper()
	v, ok := plainParse(s)
	if ok {
		parsed(t, s, v)
	} else {
		noVector(t, s)
	}
	return ok
}

func TestP10_1MayExamples(t *testing.T) {
	for _, c := range []struct {
		v    api.Vec
		want bool
	}{
		{nil, true},
		{api.Vec{}, true},
		{api.Vec{{Replica: 0, Seq: 1}}, true},
		{api.Vec{{Replica: 31, Seq: 1 << 40}}, true},
		{api.Vec{{Replica: 0, Seq: 3}, {Replica: 2, Seq: 1}}, true},
		{api.Vec{{Replica: 0, Seq: 1}, {Replica: 1, Seq: 1}, {Replica: 31, Seq: 1}}, true},
		{full(1), true},
		{full(1 << 40), true},
		{api.Vec{{Replica: 2, Seq: 1}, {Replica: 0, Seq: 3}}, false},
		{api.Vec{{Replica: 0, Seq: 1}, {Replica: 2, Seq: 1}, {Replica: 1, Seq: 1}}, false},
		{api.Vec{{Replica: 1, Seq: 1}, {Replica: 2, Seq: 1}, {Replica: 1, Seq: 1}}, false},
		{api.Vec{{Replica: 0, Seq: 1}, {Replica: 0, Seq: 1}}, false},
		{api.Vec{{Replica: 0, Seq: 1}, {Replica: 0, Seq: 2}}, false},
		{api.Vec{{Replica: 3, Seq: 1}, {Replica: 31, Seq: 1}, {Replica: 31, Seq: 2}}, false},
		{api.Vec{{}}, false},
		{api.Vec{{Replica: 0, Seq: 0}, {Replica: 1, Seq: 1}}, false},
		{api.Vec{{Replica: 0, Seq: 1}, {Replica: 1, Seq: 0}}, false},
		{api.Vec{{Replica: 0, Seq: 1}, {Replica: 1, Seq: -1}, {Replica: 2, Seq: 1}}, false},
		{api.Vec{{Replica: 0, Seq: 1<<40 + 1}}, false},
		{api.Vec{{Replica: -1, Seq: 1}, {Replica: 0, Seq: 1}}, false},
		{api.Vec{{Replica: 31, Seq: 1}, {Replica: 32, Seq: 1}}, false},
		{append(full(1), api.Dot{Replica: 32, Seq: 1}), false},
		{append(full(1), api.Dot{Replica: 31, Seq: 2}), false},
		{full(0), false},
		{full(1<<40 + 1), false},
	} {
		tells(t, May(c.v), c.want, "May(%d)", c.v)
	}
}

// TestP10_1May has vectors, and each of them with one dot in another place, doubled, or replaced by another one.
func TestP10_1May(t *testing.T) {
	for _, v := range vectors() {
		tells(t, May(v), plainMay(v), "May(%d)", v)
	}
	c := chain(13)
	for range 2000 {
		v := good(&c)
		tells(t, May(v), true, "May(%d)", v)
		if len(v) == 0 {
			continue
		}
		i, j := c.below(len(v)), c.below(len(v))
		swapped := slices.Clone(v)
		swapped[i], swapped[j] = v[j], v[i]
		tells(t, May(swapped), i == j, "May(%d)", swapped)
		doubled := slices.Insert(slices.Clone(v), i, api.Dot{Replica: v[i].Replica, Seq: of(&c, goodSeqs)})
		tells(t, May(doubled), false, "May(%d)", doubled)
		replaced := slices.Clone(v)
		replaced[i].Seq = of(&c, oddSeqs)
		tells(t, May(replaced), false, "May(%d)", replaced)
		replaced = slices.Clone(v)
		replaced[i].Replica = of(&c, oddReplicas)
		tells(t, May(replaced), false, "May(%d)", replaced)
	}
}

func TestP10_1SameExamples(t *testing.T) {
	a := api.Vec{{Replica: 0, Seq: 3}, {Replica: 2, Seq: 1}}
	for _, c := range []struct {
		a, b api.Vec
		want bool
	}{
		{nil, api.Vec{}, true},
		{nil, api.Vec{{}}, true},
		{nil, api.Vec{{Replica: 0, Seq: 1}}, false},
		{nil, api.Vec{{Replica: 31, Seq: 1}}, false},
		{a, api.Vec{{Replica: 0, Seq: 3}, {Replica: 2, Seq: 1}}, true},
		{a, api.Vec{{Replica: 2, Seq: 1}, {Replica: 0, Seq: 3}}, true},
		{a, api.Vec{{Replica: 2, Seq: 1}, {Replica: 0, Seq: 2}, {Replica: 0, Seq: 3}, {Replica: 50, Seq: 1}, {Replica: 1, Seq: 0}}, true},
		{a, api.Vec{{Replica: 0, Seq: 3}, {Replica: 0, Seq: 2}, {Replica: 2, Seq: 1}, {Replica: 2, Seq: 1<<40 + 1}}, true},
		{a, api.Vec{{Replica: 0, Seq: 3}, {Replica: 2, Seq: 2}}, false},
		{a, api.Vec{{Replica: 0, Seq: 3}, {Replica: 1, Seq: 1}}, false},
		{a, api.Vec{{Replica: 0, Seq: 3}}, false},
		{a, api.Vec{{Replica: 2, Seq: 1}}, false},
		{a, api.Vec{{Replica: 0, Seq: 3}, {Replica: 2, Seq: 1}, {Replica: 31, Seq: 1}}, false},
		{full(1 << 40), full(1<<40 - 1), false},
		{full(0), full(1<<40 + 1), true},
	} {
		tells(t, Same(c.a, c.b), c.want, "Same(%d, %d)", c.a, c.b)
		tells(t, Same(c.b, c.a), c.want, "Same(%d, %d)", c.b, c.a)
	}
}

func TestP10_1GetAndHasExamples(t *testing.T) {
	a := api.Vec{{Replica: 0, Seq: 3}, {Replica: 2, Seq: 1}, {Replica: 31, Seq: 1 << 40}}
	odd := api.Vec{{Replica: 2, Seq: 1}, {Replica: 0, Seq: 2}, {Replica: 31, Seq: 1 << 40}, {Replica: 0, Seq: 3}, {Replica: 31, Seq: 5}, {Replica: 50, Seq: 1}, {Replica: 1, Seq: 0}, {Replica: -1, Seq: 4}, {Replica: 2, Seq: 1<<40 + 1}}
	for _, v := range []api.Vec{a, odd} {
		for replica, want := range map[int]int64{0: 3, 1: 0, 2: 1, 3: 0, 30: 0, 31: 1 << 40, 32: 0, 50: 0, 99: 0, -1: 0, -31: 0, 1 << 32: 0, math.MaxInt: 0, math.MinInt: 0} {
			tells(t, Get(v, replica), want, "Get(%d, %d)", v, replica)
		}
		for d, want := range map[api.Dot]bool{
			{Replica: 0, Seq: 1}: true, {Replica: 0, Seq: 2}: true, {Replica: 0, Seq: 3}: true, {Replica: 0, Seq: 4}: false, {Replica: 0, Seq: 0}: false, {Replica: 0, Seq: -1}: false,
			{Replica: 2, Seq: 1}: true, {Replica: 2, Seq: 2}: false, {Replica: 2, Seq: 1<<40 + 1}: false, {Replica: 2, Seq: 0}: false,
			{Replica: 1, Seq: 1}: false, {Replica: 1, Seq: 0}: false, {Replica: 1, Seq: -1}: false, {Replica: 1, Seq: math.MinInt64}: false,
			{Replica: 31, Seq: 1}: true, {Replica: 31, Seq: 1 << 40}: true, {Replica: 31, Seq: 1<<40 + 1}: false, {Replica: 31, Seq: math.MaxInt64}: false,
			{Replica: 50, Seq: 1}: false, {Replica: 50, Seq: 0}: false, {Replica: -1, Seq: 1}: false, {Replica: -1, Seq: 0}: false, {Replica: 32, Seq: 1}: false, {Replica: 1 << 32, Seq: 1}: false,
		} {
			tells(t, Has(v, d), want, "Has(%d, %d)", v, d)
		}
	}
	tells(t, Get(nil, 0), 0, "Get(nil, 0)")
	tells(t, Has(nil, api.Dot{Replica: 0, Seq: 1}), false, "Has(nil, 0:1)")
	tells(t, Has(nil, api.Dot{}), false, "Has(nil, 0:0)")
}

func TestP10_1WithExamples(t *testing.T) {
	a := api.Vec{{Replica: 0, Seq: 3}, {Replica: 2, Seq: 1}}
	odd := api.Vec{{Replica: 2, Seq: 1}, {Replica: 0, Seq: 2}, {Replica: 0, Seq: 3}, {Replica: 50, Seq: 1}, {Replica: 1, Seq: 0}, {Replica: 1, Seq: 1<<40 + 1}}
	for _, v := range []api.Vec{a, odd} {
		for d, want := range map[api.Dot]api.Vec{
			{Replica: 0, Seq: 4}:           {{Replica: 0, Seq: 4}, {Replica: 2, Seq: 1}},
			{Replica: 2, Seq: 9}:           {{Replica: 0, Seq: 3}, {Replica: 2, Seq: 9}},
			{Replica: 1, Seq: 1}:           {{Replica: 0, Seq: 3}, {Replica: 1, Seq: 1}, {Replica: 2, Seq: 1}},
			{Replica: 31, Seq: 1 << 40}:    {{Replica: 0, Seq: 3}, {Replica: 2, Seq: 1}, {Replica: 31, Seq: 1 << 40}},
			{Replica: 0, Seq: 3}:           a,
			{Replica: 0, Seq: 2}:           a,
			{Replica: 0, Seq: 1}:           a,
			{Replica: 0, Seq: 0}:           a,
			{Replica: 0, Seq: -7}:          a,
			{Replica: 1, Seq: 0}:           a,
			{Replica: 0, Seq: 1<<40 + 1}:   a,
			{Replica: 1, Seq: 1<<40 + 1}:   a,
			{Replica: 32, Seq: 1}:          a,
			{Replica: 50, Seq: 2}:          a,
			{Replica: -1, Seq: 1}:          a,
			{Replica: 1<<32 + 1, Seq: 9}:   a,
			{Replica: math.MinInt, Seq: 9}: a,
		} {
			is(t, With(v, d), want, "With(%d, %d)", v, d)
		}
	}
	is(t, With(nil, api.Dot{Replica: 3, Seq: 17}), api.Vec{{Replica: 3, Seq: 17}}, "With(nil, 3:17)")
	is(t, With(nil, api.Dot{Replica: 40, Seq: 1}), nil, "With(nil, 40:1)")
	is(t, With(nil, api.Dot{}), nil, "With(nil, 0:0)")
	is(t, With(full(1), api.Dot{Replica: 31, Seq: 2}), append(full(1)[:31], api.Dot{Replica: 31, Seq: 2}), "With(full, 31:2)")
}

// TestP10_1Any asks vectors and other dots of all replicas, and of dots near to the limits and to what is known.
func TestP10_1Any(t *testing.T) {
	for _, v := range vectors() {
		m := plain(v)
		replicas := slices.Clone(oddReplicas)
		for replica := range 32 {
			replicas = append(replicas, replica)
		}
		for _, replica := range replicas {
			known := m[replica]
			tells(t, Get(v, replica), known, "Get(%d, %d)", v, replica)
			for _, seq := range append([]int64{known - 1, known, known + 1, 1, 1 << 40}, oddSeqs...) {
				d := api.Dot{Replica: replica, Seq: seq}
				may := replica >= 0 && replica <= 31 && seq >= 1 && seq <= 1<<40
				tells(t, Has(v, d), may && seq <= known, "Has(%d, %d)", v, d)
				want := maps.Clone(m)
				if may && seq > known {
					want[replica] = seq
				}
				is(t, With(v, d), vectorOf(want), "With(%d, %d)", v, d)
			}
		}
	}
}

func TestP10_2JoinAndMeetExamples(t *testing.T) {
	a, b := api.Vec{{Replica: 0, Seq: 3}, {Replica: 2, Seq: 1}}, api.Vec{{Replica: 0, Seq: 1}, {Replica: 1, Seq: 5}}
	odd := api.Vec{{Replica: 2, Seq: 1}, {Replica: 0, Seq: 2}, {Replica: 0, Seq: 3}, {Replica: 50, Seq: 1}, {Replica: 1, Seq: 0}}
	for _, c := range []struct{ a, b, join, meet api.Vec }{
		{a, b, api.Vec{{Replica: 0, Seq: 3}, {Replica: 1, Seq: 5}, {Replica: 2, Seq: 1}}, api.Vec{{Replica: 0, Seq: 1}}},
		{odd, b, api.Vec{{Replica: 0, Seq: 3}, {Replica: 1, Seq: 5}, {Replica: 2, Seq: 1}}, api.Vec{{Replica: 0, Seq: 1}}},
		{odd, odd, a, a},
		{odd, nil, a, nil},
		{a, a, a, a},
		{a, nil, a, nil},
		{nil, nil, nil, nil},
		{a, api.Vec{{Replica: 1, Seq: 5}}, api.Vec{{Replica: 0, Seq: 3}, {Replica: 1, Seq: 5}, {Replica: 2, Seq: 1}}, nil},
		{api.Vec{{Replica: 31, Seq: 1 << 40}}, api.Vec{{Replica: 31, Seq: 1}}, api.Vec{{Replica: 31, Seq: 1 << 40}}, api.Vec{{Replica: 31, Seq: 1}}},
		{api.Vec{{Replica: 31, Seq: 1<<40 + 1}}, api.Vec{{Replica: 31, Seq: 1}}, api.Vec{{Replica: 31, Seq: 1}}, nil},
		{api.Vec{{Replica: 32, Seq: 2}}, api.Vec{{Replica: 32, Seq: 1}}, nil, nil},
		{api.Vec{{Replica: 1, Seq: -2}}, api.Vec{{Replica: 1, Seq: -1}}, nil, nil},
		{full(1 << 40), full(1), full(1 << 40), full(1)},
		{full(1 << 40), a, full(1 << 40), a},
	} {
		is(t, Join(c.a, c.b), c.join, "Join(%d, %d)", c.a, c.b)
		is(t, Join(c.b, c.a), c.join, "Join(%d, %d)", c.b, c.a)
		is(t, Meet(c.a, c.b), c.meet, "Meet(%d, %d)", c.a, c.b)
		is(t, Meet(c.b, c.a), c.meet, "Meet(%d, %d)", c.b, c.a)
	}
}

func TestP10_2LeqExamples(t *testing.T) {
	a, b := api.Vec{{Replica: 0, Seq: 3}, {Replica: 2, Seq: 1}}, api.Vec{{Replica: 0, Seq: 1}, {Replica: 1, Seq: 5}}
	for _, c := range []struct {
		a, b api.Vec
		want bool
	}{
		{nil, nil, true},
		{nil, a, true},
		{a, nil, false},
		{a, a, true},
		{a, b, false},
		{b, a, false},
		{api.Vec{{Replica: 0, Seq: 1}}, a, true},
		{api.Vec{{Replica: 0, Seq: 3}}, a, true},
		{api.Vec{{Replica: 0, Seq: 4}}, a, false},
		{api.Vec{{Replica: 2, Seq: 2}}, a, false},
		{api.Vec{{Replica: 31, Seq: 1}}, a, false},
		{api.Vec{{Replica: 0, Seq: 1<<40 + 1}}, a, true},
		{a, api.Vec{{Replica: 0, Seq: 1<<40 + 1}, {Replica: 2, Seq: 1}}, false},
		{api.Vec{{Replica: 32, Seq: 5}, {Replica: -1, Seq: 5}, {Replica: 1, Seq: 0}}, nil, true},
		{api.Vec{{Replica: 0, Seq: 4}, {Replica: 0, Seq: 1}}, a, false},
		{a, api.Vec{{Replica: 2, Seq: 1}, {Replica: 0, Seq: 3}, {Replica: 0, Seq: 1}}, true},
		{full(1<<40 - 1), full(1 << 40), true},
		{full(1 << 40), full(1<<40 - 1), false},
	} {
		tells(t, Leq(c.a, c.b), c.want, "Leq(%d, %d)", c.a, c.b)
	}
}

// TestP10_2Any holds vectors, and other dots, against each other; and each against itself with one dot more.
func TestP10_2Any(t *testing.T) {
	all := vectors()
	for i, a := range all {
		for j := i % 17; j < len(all); j += 17 {
			twoHold(t, a, all[j])
			twoHold(t, all[j], a)
		}
		c := chain(i)
		d := api.Dot{Replica: c.below(32), Seq: of(&c, goodSeqs)}
		twoHold(t, a, append(slices.Clone(a), d))
		twoHold(t, append(slices.Clone(a), d), a)
	}
}

// twoHold holds what is told of a and b against the chapter's words.
func twoHold(t *testing.T, a, b api.Vec) {
	t.Helper()
	ofA, ofB := plain(a), plain(b)
	join, meet, leq := map[int]int64{}, map[int]int64{}, true
	for replica := range 32 {
		join[replica] = max(ofA[replica], ofB[replica])
		meet[replica] = min(ofA[replica], ofB[replica])
		leq = leq && ofA[replica] <= ofB[replica]
	}
	if got, want := Join(a, b), vectorOf(join); !slices.Equal(got, want) {
		t.Fatalf("Join(%d, %d) = %d, not %d", a, b, got, want)
	}
	if got, want := Meet(a, b), vectorOf(meet); !slices.Equal(got, want) {
		t.Fatalf("Meet(%d, %d) = %d, not %d", a, b, got, want)
	}
	if got := Leq(a, b); got != leq {
		t.Fatalf("Leq(%d, %d) = %t", a, b, got)
	}
	if got := Same(a, b); got != maps.Equal(ofA, ofB) {
		t.Fatalf("Same(%d, %d) = %t", a, b, got)
	}
}

func TestP10_3Examples(t *testing.T) {
	for s, v := range map[string]api.Vec{
		"-":                               nil,
		"0:1":                             {{Replica: 0, Seq: 1}},
		"31:1099511627776":                {{Replica: 31, Seq: 1 << 40}},
		"0:3,2:1":                         {{Replica: 0, Seq: 3}, {Replica: 2, Seq: 1}},
		"0:3,1:5,2:1":                     {{Replica: 0, Seq: 3}, {Replica: 1, Seq: 5}, {Replica: 2, Seq: 1}},
		"2:7,9:10,10:9,31:100":            {{Replica: 2, Seq: 7}, {Replica: 9, Seq: 10}, {Replica: 10, Seq: 9}, {Replica: 31, Seq: 100}},
		"0:1099511627776,1:1099511627775": {{Replica: 0, Seq: 1 << 40}, {Replica: 1, Seq: 1<<40 - 1}},
	} {
		parsed(t, s, v)
	}
	for s, v := range map[string]api.Vec{
		"-":        {{}, {Replica: 32, Seq: 1}, {Replica: -1, Seq: 1}, {Replica: 0, Seq: -1}, {Replica: 0, Seq: 1<<40 + 1}},
		"0:3,2:1":  {{Replica: 2, Seq: 1}, {Replica: 0, Seq: 2}, {Replica: 0, Seq: 3}, {Replica: 50, Seq: 1}, {Replica: 1, Seq: 0}},
		"9:1,10:2": {{Replica: 10, Seq: 2}, {Replica: 9, Seq: 1}},
	} {
		tells(t, Text(v), s, "Text(%d)", v)
	}
	var longest []string
	for replica := range 32 {
		longest = append(longest, fmt.Sprintf("%d:1099511627776", replica))
	}
	parsed(t, strings.Join(longest, ","), full(1<<40))
}

// TestP10_3ThereAndBack has vectors, and other dots, of which the vector is told.
func TestP10_3ThereAndBack(t *testing.T) {
	texts := map[string]api.Vec{}
	for _, v := range vectors() {
		s, own := plainText(v), vectorOf(plain(v))
		tells(t, Text(v), s, "Text(%d)", v)
		parsed(t, s, own)
		if other, ok := texts[s]; ok && !slices.Equal(other, own) {
			t.Fatalf("%d and %d have one text, %q", own, other, s)
		}
		texts[s] = own
	}
}

// TestP10_3ParseShort has all texts of a few bytes, and all of a few pieces.
func TestP10_3ParseShort(t *testing.T) {
	for _, c := range []struct {
		pieces string
		most   int
		want   int
	}{
		// A hyphen; replicas 0, 1 and 2 with the numbers 1, 2, 10, 11, 12, 20, 21 and 22, or 18 of three figures; replicas 10, 11, 12, 20, 21 and 22 with the first 8.
		{"0 1 2 : , - \x00", 5, 1 + 3*8 + 3*18 + 6*8},
		// A hyphen; each of the first four alone, and what of them rises: 5 pairs (without both of replica 1), and two of three.
		{"0:1 1:3 1:2 31:2 , - 32:1 3:0", 5, 1 + 4 + 5 + 2},
	} {
		found := map[string]bool{}
		level := []string{""}
		for range c.most {
			var next []string
			for _, s := range level {
				for _, piece := range strings.Split(c.pieces, " ") {
					next = append(next, s+piece)
					if holds(t, s+piece) {
						found[s+piece] = true
					}
				}
			}
			level = next
		}
		tells(t, len(found), c.want, "the count of vectors' texts of %q", c.pieces)
	}
}

// TestP10_3ParseAnyByte has each byte at each place of texts, in place of what stands there, and between; and what is left without it.
func TestP10_3ParseAnyByte(t *testing.T) {
	for _, s := range []string{"-", "0:3,2:1", "9:10,10:9,31:1099511627776", "0:1,1:1,2:1,3:1"} {
		for i := range len(s) + 1 {
			for c := range 256 {
				b := string([]byte{byte(c)})
				holds(t, s[:i]+b+s[i:])
				if i < len(s) {
					holds(t, s[:i]+b+s[i+1:])
				}
			}
			for j := i; j <= len(s); j++ {
				holds(t, s[:i]+s[j:])
				holds(t, s[:j]+s[i:])
			}
		}
	}
}

func TestP10_3ParseWrong(t *testing.T) {
	for _, s := range []string{
		"", " ", ",", ",,", "--", "-,", ",-", "-,-", "- ", " -", "-\n", "-\x00", "\u2010", "\u2013", "\u2212", "nil", "[]", "0",
		"-,0:1", "0:1,-", "0:1-", "-0:1", "0:1,-,1:1", "0:1,,1:1", ",0:1", "0:1,", "0:3,2:1,", ",0:3,2:1", "0:3,2:1\n", "0:3,2:1\x00", "\x000:3,2:1",
		"0:3 ,2:1", "0:3, 2:1", " 0:3,2:1", "0:3,2:1 ", "0:3 2:1", "0:3;2:1", "0:3\n2:1", "0:3\x002:1", "0:3.2:1", "0:3\uff0c2:1", "0:3:2:1", "0,3:2,1", "[0:3,2:1]", "(0:3,2:1)", "0:3,2:1;", "0:3,2",
		"2:1,0:3", "1:1,0:1", "31:1,30:1", "10:1,9:1", "0:1,2:1,1:1", "1:1,2:1,0:1", "0:1,0:1", "0:1,0:2", "0:2,0:1", "0:1,1:1,1:1", "31:1,31:1", "0:1,1:1,0:1",
		"0:0", "0:0,1:1", "1:1,2:0", "0:3,1:0,2:1", "0:-1", "-1:1,0:1", "32:1", "0:1,32:1", "31:1,32:1", "0:1,4294967297:1", "0:1099511627777", "0:1,1:1099511627777", "0:18446744073709551617",
		"00:3,2:1", "0:03,2:1", "0:3,02:1", "0:3,2:01", "+0:3", "0:+3", "0x0:3", "0:3e0", "a:1", "0:a", "0:1,a", "3,17", "a~3-17",
		plainText(full(1)) + ",32:1", plainText(full(1)) + ",31:2", plainText(full(1)) + ",", "0:1," + plainText(full(1)),
		strings.Repeat("0:1,", 1<<18) + "0:1", strings.Repeat("0:1,", 1<<18), strings.Repeat(",", 1<<20), strings.Repeat("-", 1<<20), "0:1," + strings.Repeat("1", 1<<20), "0:" + strings.Repeat("1", 1<<20), strings.Repeat("0:1", 1<<18),
	} {
		noVector(t, s)
	}
}

// few is all vectors of three replicas with numbers of 0 (none) to 2, and of two replicas with the greatest numbers.
func few() []api.Vec {
	var l []api.Vec
	for i := range int64(27) {
		l = append(l, vectorOf(map[int]int64{0: i % 3, 7: i / 3 % 3, 31: i / 9}))
	}
	for i := range int64(9) {
		l = append(l, vectorOf(map[int]int64{7: 1<<40 - i%3, 8: 1<<40 - i/3}))
	}
	return l
}

// leqHolds holds that Leq tells want of a and b.
func leqHolds(t *testing.T, a, b api.Vec, want bool) {
	t.Helper()
	if got := Leq(a, b); got != want {
		t.Fatalf("Leq(%d, %d) = %t", a, b, got)
	}
}

// TestP10_4Lattice holds each two of few vectors against each third one.
func TestP10_4Lattice(t *testing.T) {
	all := few()
	for _, a := range all {
		for _, b := range all {
			join, meet := Join(a, b), Meet(a, b)
			leqHolds(t, a, join, true)
			leqHolds(t, b, join, true)
			leqHolds(t, meet, a, true)
			leqHolds(t, meet, b, true)
			for _, c := range all {
				leqHolds(t, join, c, Leq(a, c) && Leq(b, c))
				leqHolds(t, c, meet, Leq(c, a) && Leq(c, b))
			}
			tells(t, Leq(a, b) && Leq(b, a), Same(a, b), "both Leq of %d and %d", a, b)
			tells(t, Same(join, b), Leq(a, b), "Join(%d, %d) is b", a, b)
			tells(t, Same(meet, a), Leq(a, b), "Meet(%d, %d) is a", a, b)
			is(t, Join(a, meet), a, "Join(%d, Meet of it and %d)", a, b)
			is(t, Meet(a, join), a, "Meet(%d, Join of it and %d)", a, b)
		}
	}
}

// TestP10_4AnyOrder holds that vectors are put together to the same ones, in whatever order.
func TestP10_4AnyOrder(t *testing.T) {
	c := chain(17)
	for range 3000 {
		l := []api.Vec{good(&c), odd(&c), good(&c), odd(&c)}
		join, meet := l[0], l[0]
		for _, v := range l[1:] {
			join, meet = Join(join, v), Meet(meet, v)
		}
		other := []api.Vec{l[3], l[1], l[0], l[2]}
		is(t, Join(Join(other[0], other[1]), Join(other[2], other[3])), join, "Join of %d", other)
		is(t, Meet(Meet(other[0], other[1]), Meet(other[2], other[3])), meet, "Meet of %d", other)
		is(t, Join(join, join), join, "Join of %d and again", l)
		is(t, Meet(meet, Meet(join, meet)), meet, "Meet of %d and again", l)
		is(t, Meet(l[0], Join(l[1], l[2])), Join(Meet(l[0], l[1]), Meet(l[0], l[2])), "Meet of %d and a Join", l)
	}
}

// TestP10_4Known holds that what either knows is known of Join, what both know of Meet, and nothing else.
func TestP10_4Known(t *testing.T) {
	c := chain(19)
	for range 1500 {
		a, b := odd(&c), good(&c)
		join, meet := Join(a, b), Meet(a, b)
		tells(t, plainMay(join) && plainMay(meet), true, "May of Join and Meet")
		for replica := -1; replica <= 32; replica++ {
			for _, at := range []int64{0, Get(a, replica), Get(b, replica)} {
				for seq := at - 1; seq <= at+1; seq++ {
					d := api.Dot{Replica: replica, Seq: seq}
					ofA, ofB := Has(a, d), Has(b, d)
					if Has(join, d) != (ofA || ofB) || Has(meet, d) != (ofA && ofB) {
						t.Fatalf("%d: known of %d: %t, of %d: %t; of Join: %t, of Meet: %t", d, a, ofA, b, ofB, Has(join, d), Has(meet, d))
					}
				}
			}
		}
	}
}

// TestR2NilAndEmpty holds that no dots are none, whichever way, in each call.
func TestR2NilAndEmpty(t *testing.T) {
	a := api.Vec{{Replica: 0, Seq: 3}, {Replica: 2, Seq: 1}}
	for _, none := range []api.Vec{nil, {}, make(api.Vec, 0, 9), a[:0]} {
		tells(t, May(none), true, "May of none")
		tells(t, Same(none, nil) && Same(nil, none), true, "Same of none and nil")
		tells(t, Same(none, a) || Same(a, none), false, "Same of none and some")
		tells(t, Get(none, 0), 0, "Get of none")
		tells(t, Has(none, a[0]), false, "Has of none")
		is(t, With(none, a[0]), a[:1], "With of none")
		is(t, Join(none, a), a, "Join of none and some")
		is(t, Join(a, none), a, "Join of some and none")
		is(t, Meet(none, a), nil, "Meet of none and some")
		is(t, Meet(a, none), nil, "Meet of some and none")
		tells(t, Leq(none, a), true, "Leq of none and some")
		tells(t, Leq(a, none), false, "Leq of some and none")
		tells(t, Text(none), "-", "Text of none")
	}
}

// TestR3NothingShared holds that what is handed in stays as it is, its room behind included, and that changing what is told changes nothing else.
func TestR3NothingShared(t *testing.T) {
	for _, v := range vectors() {
		room := append(append(make(api.Vec, 0, len(v)+40), v...), full(5)...)
		in, was := room[:len(v)], slices.Clone(room)
		d := api.Dot{Replica: 31, Seq: 4}
		May(in)
		Same(in, in)
		Get(in, 3)
		Has(in, d)
		Leq(in, in)
		Text(in)
		for _, told := range []func() api.Vec{
			func() api.Vec { return With(in, d) },
			func() api.Vec { return With(in, api.Dot{Replica: 32, Seq: 1}) },
			func() api.Vec { return Join(in, nil) },
			func() api.Vec { return Join(nil, in) },
			func() api.Vec { return Join(in, in) },
			func() api.Vec { return Meet(in, in) },
			func() api.Vec { v, _ := Parse(plainText(in)); return v },
		} {
			first := told()
			same := slices.Clone(first)
			second := told()
			for i := range first {
				first[i] = api.Dot{Replica: -9, Seq: -9}
			}
			_ = append(first, d, d)
			is(t, second, same, "what is told of %d a second time", was)
			is(t, told(), same, "what is told of %d a third time", was)
		}
		is(t, room, was, "what was handed in")
	}
}

// TestP1ManyDots has more dots than any vector, which no call takes amiss.
func TestP1ManyDots(t *testing.T) {
	var v api.Vec
	want := map[int]int64{}
	c := chain(23)
	for range 1 << 18 {
		d := api.Dot{Replica: c.below(40) - 4, Seq: int64(c.below(1 << 30))}
		v = append(v, d)
		if d.Replica >= 0 && d.Replica <= 31 {
			want[d.Replica] = max(want[d.Replica], d.Seq)
		}
	}
	own := vectorOf(want)
	tells(t, May(v), false, "May")
	tells(t, Same(v, own), true, "Same")
	tells(t, Get(v, 31), want[31], "Get")
	tells(t, Has(v, own[31]), true, "Has")
	tells(t, Leq(v, own), true, "Leq")
	is(t, With(v, own[0]), own, "With")
	is(t, Join(v, nil), own, "Join")
	is(t, Meet(v, own), own, "Meet")
	tells(t, Text(v), plainText(own), "Text")
}
