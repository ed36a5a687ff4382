package mat

import (
	"fmt"
	"math"
	"slices"
	"strings"
	"testing"

	"bindle/api"
	"bindle/vec"
)

// chain tells numbers of a fixed rule, one after the other.
type chain uint64

func (c *chain) word() uint64 {
	*c = *c*6364136223846793005 + 1442695040888963407
	return uint64(*c) ^ uint64(*c)>>33
}

// below is one of the fixed rule, from 0 to n-1.
func (c *chain) below(n int) int {
	return int(c.word() >> 9 % uint64(n))
}

// of is one of l.
func of[T any](c *chain, l []T) T {
	return l[c.below(len(l))]
}

// The numbers that no roster has, and such as wrap round to those within if they are cut to fewer bits.
var oddNumbers = []int{math.MinInt, -1 << 32, -33, -32, -2, -1, 33, 34, 64, 256 + 3, 1<<16 + 3, 1 << 31, 1 << 32, 1<<32 + 3, math.MaxInt}

var seqs = []int64{1, 2, 3, 9, 10, 1 << 32, 1<<40 - 1, 1 << 40}

// good is a vector of the fixed rule.
func good(c *chain) api.Vec {
	v := api.Vec{}
	often := 1 + c.below(12)
	for replica := range 32 {
		if c.below(often) == 0 {
			v = append(v, api.Dot{Replica: replica, Seq: of(c, seqs)})
		}
	}
	return v
}

// odd is dots of the fixed rule, in any order, some of one replica, some that may not be.
func odd(c *chain) api.Vec {
	v := api.Vec{}
	for range c.below(20) {
		v = append(v, api.Dot{Replica: c.below(36) - 2, Seq: of(c, append([]int64{-1, 0, 1<<40 + 1}, seqs...))})
	}
	return v
}

// matrix is so many rows of the fixed rule: vectors alone, or other dots as well.
func matrix(c *chain, rows int, row ...func(c *chain) api.Vec) []api.Vec {
	m := []api.Vec{}
	for range rows {
		m = append(m, of(c, row)(c))
	}
	return m
}

// matrices is all kinds: of no rows, of few, of 32 and of more.
func matrices() []([]api.Vec) {
	l := []([]api.Vec){nil, {}, {nil}, {{}}, {nil, {}}, make([]api.Vec, 32), make([]api.Vec, 33)}
	c := chain(29)
	for range 8 {
		for rows := 1; rows <= 35; rows++ {
			l = append(l, matrix(&c, rows, good), matrix(&c, rows, good, odd))
		}
	}
	return l
}

// v is the vector of s.
func v(t *testing.T, s string) api.Vec {
	t.Helper()
	got, e := vec.Parse(s)
	if e != api.OK {
		t.Fatalf("%q is no vector's text", s)
	}
	return got
}

// rows is the matrix with the vectors of such texts.
func rows(t *testing.T, texts ...string) []api.Vec {
	t.Helper()
	var m []api.Vec
	for _, s := range texts {
		m = append(m, v(t, s))
	}
	return m
}

// is holds that got has the rows of want, dot by dot, and no others.
func is(t *testing.T, got, want []api.Vec, what string, args ...any) {
	t.Helper()
	if !slices.EqualFunc(got, want, slices.Equal[api.Vec]) {
		t.Fatalf("%s = %d, not %d", fmt.Sprintf(what, args...), got, want)
	}
}

// row holds that got has the dots of want, in that order, and no others.
func row(t *testing.T, got, want api.Vec, what string, args ...any) {
	t.Helper()
	is(t, []api.Vec{got}, []api.Vec{want}, what, args...)
}

// tells holds that got is want.
func tells[T comparable](t *testing.T, got, want T, what string, args ...any) {
	t.Helper()
	if got != want {
		t.Fatalf("%s = %v, not %v", fmt.Sprintf(what, args...), got, want)
	}
}

// cloned is m in memory of its own.
func cloned(m []api.Vec) []api.Vec {
	var l []api.Vec
	for _, row := range m {
		l = append(l, slices.Clone(row))
	}
	return l
}

func TestP11_1New(t *testing.T) {
	for n := 1; n <= 32; n++ {
		m := New(n)
		tells(t, len(m), n, "the count of rows of New(%d)", n)
		for _, row := range m {
			tells(t, len(row), 0, "the count of dots of a row of New(%d)", n)
		}
		tells(t, May(m, n), true, "May(New(%d), %d)", n, n)
	}
	for _, n := range append([]int{0}, oddNumbers...) {
		tells(t, len(New(n)), 0, "the count of rows of New(%d)", n)
	}
}

// TestP11_1May has vectors at all rows, and something else at one of them.
func TestP11_1May(t *testing.T) {
	c := chain(31)
	for n := range 36 {
		m := matrix(&c, n, good)
		for k := -2; k <= 36; k++ {
			tells(t, May(m, k), k == n && n >= 1 && n <= 32, "May(%d, %d)", m, k)
		}
		for _, k := range oddNumbers {
			tells(t, May(m, k), false, "May(%d, %d)", m, k)
		}
		for i := range n {
			for _, bad := range []api.Vec{{{}}, {{Replica: 32, Seq: 1}}, {{Replica: -1, Seq: 1}}, {{Replica: 0, Seq: 1<<40 + 1}}, {{Replica: 1, Seq: 1}, {Replica: 0, Seq: 1}}, {{Replica: 1, Seq: 1}, {Replica: 1, Seq: 2}}} {
				other := slices.Clone(m)
				other[i] = bad
				tells(t, May(other, n), false, "May(%d, %d)", other, n)
			}
			other := slices.Clone(m)
			other[i] = api.Vec{}
			tells(t, May(other, n), n <= 32, "May(%d, %d)", other, n)
		}
	}
}

func TestP11_1RowExamples(t *testing.T) {
	m := rows(t, "0:3,1:2", "0:1", "-")
	odd := api.Vec{{Replica: 2, Seq: 1}, {Replica: 0, Seq: 2}, {Replica: 0, Seq: 3}, {Replica: 50, Seq: 0}}
	m = append(m, odd)
	for replica, want := range map[int]api.Vec{0: v(t, "0:3,1:2"), 1: v(t, "0:1"), 2: nil, 3: odd, 4: nil, 31: nil, 32: nil, -1: nil, -4: nil, 1 << 32: nil, math.MaxInt: nil, math.MinInt: nil} {
		row(t, Row(m, replica), want, "Row(%d, %d)", m, replica)
	}
}

// TestP11_1Row has each row of all kinds of matrices, as it stands, and none beside them.
func TestP11_1Row(t *testing.T) {
	for _, m := range matrices() {
		for replica, want := range m {
			row(t, Row(m, replica), want, "Row(%d, %d)", m, replica)
		}
		for _, replica := range append([]int{len(m), len(m) + 1, len(m) + 32}, oddNumbers...) {
			if replica < 0 || replica >= len(m) {
				row(t, Row(m, replica), nil, "Row(%d, %d)", m, replica)
			}
		}
	}
}

func TestP11_1RaiseExamples(t *testing.T) {
	m := rows(t, "0:3,1:2", "0:1", "-")
	for _, c := range []struct {
		replica int
		v       string
		want    []string
	}{
		{0, "-", []string{"0:3,1:2", "0:1", "-"}},
		{0, "0:3", []string{"0:3,1:2", "0:1", "-"}},
		{0, "0:1,1:1", []string{"0:3,1:2", "0:1", "-"}},
		{0, "0:4", []string{"0:4,1:2", "0:1", "-"}},
		{0, "1:9,31:1099511627776", []string{"0:3,1:9,31:1099511627776", "0:1", "-"}},
		{1, "1:7", []string{"0:3,1:2", "0:1,1:7", "-"}},
		{2, "0:1,2:5", []string{"0:3,1:2", "0:1", "0:1,2:5"}},
		{3, "0:9", []string{"0:3,1:2", "0:1", "-"}},
		{4, "0:9", []string{"0:3,1:2", "0:1", "-"}},
		{-1, "0:9", []string{"0:3,1:2", "0:1", "-"}},
		{-3, "0:9", []string{"0:3,1:2", "0:1", "-"}},
		{32, "0:9", []string{"0:3,1:2", "0:1", "-"}},
		{1 << 32, "0:9", []string{"0:3,1:2", "0:1", "-"}},
		{math.MinInt, "0:9", []string{"0:3,1:2", "0:1", "-"}},
		{math.MaxInt, "0:9", []string{"0:3,1:2", "0:1", "-"}},
	} {
		is(t, Raise(m, c.replica, v(t, c.v)), rows(t, c.want...), "Raise(%d, %d, %s)", m, c.replica, c.v)
	}
	is(t, Raise(nil, 0, v(t, "0:1")), nil, "Raise(nil, 0, 0:1)")
}

// TestP11_1Raise raises each row by vectors and by other dots: it alone is changed, and the others stay as they stand, whatever they have.
func TestP11_1Raise(t *testing.T) {
	c := chain(37)
	for _, m := range matrices() {
		for replica := -1; replica <= len(m)+1; replica++ {
			by := of(&c, []func(*chain) api.Vec{good, odd})(&c)
			want := cloned(m)
			if replica >= 0 && replica < len(m) {
				want[replica] = vec.Join(m[replica], by)
			}
			is(t, Raise(m, replica, by), want, "Raise(%d, %d, %d)", m, replica, by)
		}
		for _, replica := range oddNumbers {
			if replica < 0 || replica >= len(m) {
				is(t, Raise(m, replica, good(&c)), m, "Raise(%d, %d)", m, replica)
			}
		}
	}
}

func TestP11_2JoinExamples(t *testing.T) {
	for _, c := range []struct{ a, b, want []string }{
		{nil, nil, nil},
		{nil, []string{"0:1", "-"}, []string{"0:1", "-"}},
		{[]string{"-"}, []string{"-"}, []string{"-"}},
		{[]string{"0:3,2:1"}, []string{"0:1,1:5"}, []string{"0:3,1:5,2:1"}},
		{[]string{"0:3,1:2", "0:1", "-"}, []string{"-", "1:7", "0:1,2:5"}, []string{"0:3,1:2", "0:1,1:7", "0:1,2:5"}},
		{[]string{"0:3,1:2"}, []string{"-", "1:7", "0:1,2:5"}, []string{"0:3,1:2", "1:7", "0:1,2:5"}},
		{[]string{"0:1", "31:1099511627776"}, []string{"0:2", "31:1", "-", "5:5"}, []string{"0:2", "31:1099511627776", "-", "5:5"}},
	} {
		a, b, want := rows(t, c.a...), rows(t, c.b...), rows(t, c.want...)
		is(t, Join(a, b), want, "Join(%d, %d)", a, b)
		is(t, Join(b, a), want, "Join(%d, %d)", b, a)
	}
}

// TestP11_2Join has matrices of as many rows and of more: rows that have no other one stay as they stand, whatever they have.
func TestP11_2Join(t *testing.T) {
	all := matrices()
	c := chain(41)
	for _, a := range all {
		for range 6 {
			b := of(&c, all)
			var want []api.Vec
			for i := range max(len(a), len(b)) {
				switch {
				case i >= len(a):
					want = append(want, b[i])
				case i >= len(b):
					want = append(want, a[i])
				default:
					want = append(want, vec.Join(a[i], b[i]))
				}
			}
			is(t, Join(a, b), want, "Join(%d, %d)", a, b)
			is(t, Join(b, a), want, "Join(%d, %d)", b, a)
		}
	}
}

func TestP11_2LowExamples(t *testing.T) {
	for _, c := range []struct {
		m    []string
		want string
	}{
		{nil, "-"},
		{[]string{"-"}, "-"},
		{[]string{"0:3,1:2"}, "0:3,1:2"},
		{[]string{"0:3,1:2", "0:1"}, "0:1"},
		{[]string{"0:1", "0:3,1:2"}, "0:1"},
		{[]string{"0:3,1:2", "0:1", "-"}, "-"},
		{[]string{"-", "0:3,1:2", "0:3"}, "-"},
		{[]string{"0:3,1:2", "-", "0:3"}, "-"},
		{[]string{"0:3,1:2,31:9", "0:1,1:7,31:9", "0:1,2:5,31:10"}, "0:1,31:9"},
		{[]string{"31:1099511627776", "31:1099511627776", "31:1099511627775"}, "31:1099511627775"},
	} {
		m := rows(t, c.m...)
		row(t, Low(m), v(t, c.want), "Low(%d)", m)
	}
	odd := api.Vec{{Replica: 2, Seq: 1}, {Replica: 0, Seq: 2}, {Replica: 0, Seq: 3}, {Replica: 50, Seq: 1}, {Replica: 1, Seq: 0}}
	row(t, Low([]api.Vec{odd}), v(t, "0:3,2:1"), "Low of one row that is no vector")
	row(t, Low([]api.Vec{odd, odd}), v(t, "0:3,2:1"), "Low of two rows that are no vectors")
}

// TestP11_2Low holds of each replica that Low has the least that a row has.
func TestP11_2Low(t *testing.T) {
	for _, m := range matrices() {
		var want api.Vec
		for replica := range 32 {
			least := int64(0)
			for i, row := range m {
				if seq := vec.Get(row, replica); i == 0 || seq < least {
					least = seq
				}
			}
			if least > 0 {
				want = append(want, api.Dot{Replica: replica, Seq: least})
			}
		}
		row(t, Low(m), want, "Low(%d)", m)
	}
}

// noMatrix holds that s is the text of no matrix of n.
func noMatrix(t *testing.T, s string, n int) {
	t.Helper()
	if m, e := Parse(s, n); m != nil || e != api.ErrForm {
		t.Fatalf("Parse(%.99q, %d) = %d, %d", s, n, m, e)
	}
}

// parsed holds that s is the text of m, and m the matrix of s, of as many rows as m has alone.
func parsed(t *testing.T, s string, m []api.Vec) {
	t.Helper()
	if got := Text(m); got != s {
		t.Fatalf("Text(%d) = %q, not %q", m, got, s)
	}
	got, e := Parse(s, len(m))
	if e != api.OK || !slices.EqualFunc(got, m, slices.Equal[api.Vec]) {
		t.Fatalf("Parse(%q, %d) = %d, %d", s, len(m), got, e)
	}
	for _, n := range []int{len(m) - 1, len(m) + 1, 0, -len(m), len(m) + 1<<32} {
		noMatrix(t, s, n)
	}
}

// plainParse is the rows of which s is the text of so many, told by what the rows' package reads.
func plainParse(s string, n int) ([]api.Vec, bool) {
	var m []api.Vec
	for _, text := range strings.Split(s, ";") {
		row, e := vec.Parse(text)
		if e != api.OK {
			return nil, false
		}
		m = append(m, row)
	}
	return m, len(m) == n && n >= 1 && n <= 32
}

// holds holds that s is parsed as the chapter's words have it, and tells whether it is the text of a matrix of n.
func holds(t *testing.T, s string, n int) bool {
	t.Helper()
	m, ok := plainParse(s, n)
	if ok {
		parsed(t, s, m)
	} else {
		noMatrix(t, s, n)
	}
	return ok
}

func TestP11_3Examples(t *testing.T) {
	for _, s := range []string{"-", "-;-", "-;-;-", "0:1", "0:3,1:2;0:1;-", "-;31:1099511627776", "0:3,1:5,2:1;2:7,9:10,10:9;-;31:1", strings.Repeat("-;", 31) + "-"} {
		parsed(t, s, rows(t, strings.Split(s, ";")...))
	}
	tells(t, Text(nil), "", "Text of no rows")
	tells(t, Text(make([]api.Vec, 33)), strings.Repeat("-;", 32)+"-", "Text of 33 rows")
	odd := api.Vec{{Replica: 2, Seq: 1}, {Replica: 0, Seq: 2}, {Replica: 0, Seq: 3}, {Replica: 50, Seq: 1}, {Replica: 1, Seq: 0}}
	tells(t, Text([]api.Vec{odd, nil, {{}}, odd[:1]}), "0:3,2:1;-;-;2:1", "Text of rows that are no vectors")
	full := make([]api.Vec, 32)
	for i := range full {
		for replica := range 32 {
			full[i] = append(full[i], api.Dot{Replica: replica, Seq: 1 << 40})
		}
	}
	parsed(t, Text(full), full)
}

// TestP11_3ThereAndBack has matrices, and other rows, of which the vectors are told.
func TestP11_3ThereAndBack(t *testing.T) {
	for _, m := range matrices() {
		var own []api.Vec
		var texts []string
		for _, row := range m {
			own = append(own, vec.Join(row, nil))
			texts = append(texts, vec.Text(row))
		}
		s := strings.Join(texts, ";")
		tells(t, Text(m), s, "Text(%d)", m)
		if len(m) >= 1 && len(m) <= 32 {
			parsed(t, s, own)
		} else {
			noMatrix(t, s, len(m))
		}
	}
}

// TestP11_3ParseShort has all texts of a few pieces, as matrices of all few numbers.
func TestP11_3ParseShort(t *testing.T) {
	found := 0
	level := []string{""}
	for range 5 {
		var next []string
		for _, s := range level {
			for _, piece := range []string{"-", ";", ",", "0:1", "2:12", "32:1", "\x00"} {
				next = append(next, s+piece)
				for n := -1; n <= 4; n++ {
					if holds(t, s+piece, n) {
						found++
					}
				}
			}
		}
		level = next
	}
	// A row is one piece (a hyphen, or one of two dots) or three (both dots): three rows of one piece, two, one; one row of three pieces; two rows of one piece and three.
	tells(t, found, 27+9+3+1+2*3, "the count of matrices' texts")
}

// TestP11_3ParseAnyByte has each byte at each place of texts, in place of what stands there, and between; and what is left without it.
func TestP11_3ParseAnyByte(t *testing.T) {
	for _, s := range []string{"-", "-;-", "0:3,1:2;0:1;-", "-;9:10,10:9;31:1099511627776"} {
		n := strings.Count(s, ";") + 1
		for i := range len(s) + 1 {
			for c := range 256 {
				b := string([]byte{byte(c)})
				for k := max(n-1, 1); k <= n+1; k++ {
					holds(t, s[:i]+b+s[i:], k)
					if i < len(s) {
						holds(t, s[:i]+b+s[i+1:], k)
					}
				}
			}
			for j := i; j <= len(s); j++ {
				for k := 1; k <= 2*n; k++ {
					holds(t, s[:i]+s[j:], k)
					holds(t, s[:j]+s[i:], k)
				}
			}
		}
	}
}

func TestP11_3ParseWrong(t *testing.T) {
	for _, s := range []string{
		"", ";", ";;", ";;;", "-;-;", ";-;-", "-;;-", "-;-;-;", ";-;-;-", "-;-;-;-", "-;-", "-", "-,-,-", "- ; - ; -", "-; -;-", "-;-;- ", "-;-;-\n", "-;-;-\x00", "\n-;-;-", "-\n-\n-", "-:-:-", "-;-:-", "-;-;-\uff1b-", "-;-\u037e-", "---",
		"-;1:1,0:1;-", "0:1,0:1;-;-", "-;-;0:0", "-;-;32:1", "-;0:1099511627777;-", "0:1;1:1;", "0:1;1:1", "0:1;1:1;2:1;3:1", "0:1;1:1,;2:1", "0:1;,1:1;2:1", "0:1;01:1;2:1", "0:1;-,1:1;2:1", "0:1;1:1;2", "[-;-;-]",
		strings.Repeat("-;", 1<<20), strings.Repeat("-;", 1<<20) + "-", strings.Repeat(";", 1<<20), strings.Repeat("-", 1<<20), "-;-;" + strings.Repeat("0:1,", 1<<18), "-;-;-" + strings.Repeat(";", 1<<20),
	} {
		noMatrix(t, s, 3)
	}
	for n := range 40 {
		s := strings.Repeat("-;", n)
		if n > 0 {
			s = s[:len(s)-1]
		}
		for _, k := range append([]int{0, n - 1, n + 1}, oddNumbers...) {
			noMatrix(t, s, k)
		}
		if n == 0 || n > 32 {
			noMatrix(t, s, n)
		}
	}
}

// TestP11_4AnyOrder raises rows, and joins matrices in which some of it was done, in many orders.
func TestP11_4AnyOrder(t *testing.T) {
	type raise struct {
		replica int
		v       api.Vec
	}
	c := chain(43)
	for n := 1; n <= 32; n++ {
		for range 8 {
			var all []raise
			want := New(n)
			for range c.below(20) {
				r := raise{c.below(n), of(&c, []func(*chain) api.Vec{good, odd})(&c)}
				all = append(all, r)
				want = Raise(want, r.replica, r.v)
			}
			for range 4 {
				for i := range all {
					j := c.below(i + 1)
					all[i], all[j] = all[j], all[i]
				}
				parts := [][]api.Vec{New(n), New(n), New(n)}
				for _, r := range all {
					// What is told again changes nothing: some go to two parts.
					for range 1 + c.below(2) {
						i := c.below(len(parts))
						parts[i] = Raise(parts[i], r.replica, r.v)
					}
				}
				is(t, Join(parts[0], Join(parts[1], parts[2])), want, "the first with the second and third of %d", parts)
				is(t, Join(Join(parts[2], parts[1]), parts[0]), want, "the third and second with the first of %d", parts)
				is(t, Join(want, parts[1]), want, "Join of all and some")
				is(t, Join(want, want), want, "Join of all and all")
			}
		}
	}
}

// TestP11_4Low holds that Low is below each row, that nothing above it is, and that it never falls.
func TestP11_4Low(t *testing.T) {
	c := chain(47)
	for n := 1; n <= 32; n++ {
		m := New(n)
		for range 4 * n {
			by := good(&c)
			before := Low(m)
			raised := Raise(m, c.below(n), by)
			joined := Join(m, matrix(&c, n, good))
			tells(t, vec.Leq(before, Low(raised)), true, "Low(%d) is below that of %d", m, raised)
			tells(t, vec.Leq(before, Low(joined)), true, "Low(%d) is below that of %d", m, joined)
			m = of(&c, [][]api.Vec{raised, joined})
			lowHolds(t, m)
		}
	}
}

// lowHolds holds that what Low knows of m is what all rows know.
func lowHolds(t *testing.T, m []api.Vec) {
	t.Helper()
	low := Low(m)
	for replica := range 32 {
		for _, d := range []api.Dot{{Replica: replica, Seq: vec.Get(low, replica)}, {Replica: replica, Seq: vec.Get(low, replica) + 1}} {
			all := true
			for _, row := range m {
				all = all && vec.Has(row, d)
			}
			if vec.Has(low, d) != all {
				t.Fatalf("Low(%d) has %d: %t", m, d, !all)
			}
		}
	}
}

// TestR2NilAndEmpty holds that no rows, and no dots, are none, whichever way.
func TestR2NilAndEmpty(t *testing.T) {
	m := rows(t, "0:3", "1:1")
	for _, none := range []([]api.Vec){nil, {}, make([]api.Vec, 0, 9), m[:0]} {
		tells(t, May(none, 0), false, "May of none and 0")
		tells(t, May(none, 1), false, "May of none and 1")
		row(t, Row(none, 0), nil, "Row of none")
		is(t, Raise(none, 0, m[0]), nil, "Raise of none")
		is(t, Join(none, m), m, "Join of none and some")
		is(t, Join(m, none), m, "Join of some and none")
		is(t, Join(none, none), nil, "Join of none and none")
		row(t, Low(none), nil, "Low of none")
		tells(t, Text(none), "", "Text of none")
	}
	for _, none := range []api.Vec{nil, {}, m[0][:0]} {
		one := []api.Vec{none, m[1]}
		tells(t, May(one, 2), true, "May with an empty row")
		row(t, Row(one, 0), nil, "Row that is empty")
		is(t, Raise(one, 0, m[0]), m, "Raise of an empty row")
		is(t, Raise(m, 0, none), m, "Raise by none")
		is(t, Join(one, m), m, "Join with an empty row")
		row(t, Low(one), nil, "Low with an empty row")
		tells(t, Text(one), "-;1:1", "Text with an empty row")
	}
}

// spoil changes all of m, and what lies in its room behind.
func spoil(m []api.Vec) {
	for _, row := range m[:cap(m)] {
		for i := range row[:cap(row)] {
			row[:cap(row)][i] = api.Dot{Replica: -9, Seq: -9}
		}
	}
	for i := range m[:cap(m)] {
		m[:cap(m)][i] = api.Vec{{Replica: -8, Seq: -8}}
	}
}

// roomy is m, and each row of it, with room behind that is in use.
func roomy(m []api.Vec) (in, room []api.Vec) {
	for _, row := range m {
		with := append(append(make(api.Vec, 0, len(row)+9), row...), api.Dot{Replica: 5, Seq: 5}, api.Dot{Replica: 6, Seq: 6})
		room = append(room, with)
		in = append(in, with[:len(row)])
	}
	in = append(in, api.Vec{{Replica: 7, Seq: 7}})
	return in[:len(m)], room
}

// TestR3NothingShared holds that what is handed in stays as it is, its room behind included, and that changing what is told changes nothing else.
func TestR3NothingShared(t *testing.T) {
	by := api.Vec{{Replica: 31, Seq: 4}}
	for _, m := range matrices() {
		in, room := roomy(m)
		short, shortRoom := roomy(m[:len(m)/2])
		was, shortWas := cloned(room), cloned(shortRoom)
		May(in, len(in))
		Text(in)
		for i, told := range []func() []api.Vec{
			func() []api.Vec { return New(len(m)) },
			func() []api.Vec { return []api.Vec{Row(in, 0)} },
			func() []api.Vec { return []api.Vec{Row(in, len(in)-1)} },
			func() []api.Vec { return Raise(in, 0, by) },
			func() []api.Vec { return Raise(in, 1, nil) },
			func() []api.Vec { return Raise(in, -1, by) },
			func() []api.Vec { return Raise(in, len(in), by) },
			func() []api.Vec { return Join(in, nil) },
			func() []api.Vec { return Join(nil, in) },
			func() []api.Vec { return Join(in, in) },
			func() []api.Vec { return Join(in, short) },
			func() []api.Vec { return Join(short, in) },
			func() []api.Vec { return []api.Vec{Low(in)} },
			func() []api.Vec { m, _ := Parse(Text(in), len(in)); return m },
		} {
			first := told()
			same := cloned(first)
			second := told()
			spoil(first)
			is(t, second, same, "what call %d tells of %d a second time", i, m)
			is(t, told(), same, "what call %d tells of %d a third time", i, m)
			is(t, room, was, "what was handed to call %d", i)
			is(t, shortRoom, shortWas, "what was handed to call %d", i)
			is(t, in, m, "the rows that were handed to call %d", i)
			is(t, in[:len(in)+1][len(in):], []api.Vec{{{Replica: 7, Seq: 7}}}, "the row behind those that were handed to call %d", i)
		}
	}
	is(t, []api.Vec{by}, []api.Vec{{{Replica: 31, Seq: 4}}}, "the vector that rows were raised by")
}

// TestR3RowsApart holds that no two rows of one matrix share their room.
func TestR3RowsApart(t *testing.T) {
	row := make(api.Vec, 1, 8)
	row[0] = api.Dot{Replica: 1, Seq: 1}
	m := []api.Vec{row, row, row}
	for _, told := range [][]api.Vec{Raise(m, 0, row), Raise(m, 3, row), Join(m, nil), Join(m, m[:1]), Join(m, m)} {
		want := cloned(told)
		for i := range told {
			if cap(told[i]) > 0 {
				told[i][:1][0].Seq = int64(9 + i)
				_ = append(told[i], api.Dot{Replica: 9, Seq: int64(i)})
				want[i][0].Seq = int64(9 + i)
			}
		}
		is(t, told, want, "rows that were changed one after the other")
	}
}

// TestP1ManyRows has more rows than any matrix, which no call takes amiss.
func TestP1ManyRows(t *testing.T) {
	c := chain(53)
	one := []api.Vec{good(&c), good(&c), odd(&c)}
	var m []api.Vec
	for len(m) < 1<<16 {
		m = append(m, one...)
	}
	low := vec.Meet(vec.Meet(one[0], one[1]), one[2])
	tells(t, May(m, len(m)), false, "May")
	row(t, Row(m, len(m)-1), one[2], "Row")
	row(t, Raise(m, len(m)-1, one[0])[len(m)-1], vec.Join(one[2], one[0]), "the last row of Raise")
	is(t, Join(m, one)[3:], m[3:], "Join")
	row(t, Low(m), low, "Low")
	noMatrix(t, Text(m), len(m))
	noMatrix(t, Text(m), 3)
}
