package dot

import (
	"fmt"
	"math"
	"math/big"
	"slices"
	"strconv"
	"strings"
	"testing"

	"bindle/api"
)

// chain tells numbers of a fixed rule, one after the other.
type chain uint64

func (c *chain) word() uint64 {
	*c = *c*6364136223846793005 + 1442695040888963407
	return uint64(*c) ^ uint64(*c)>>33
}

// number is one of the fixed rule, of any sign and any length.
func (c *chain) number() int64 {
	n := int64(c.word())
	return n >> (c.word() >> 9 % 64)
}

// greatest is the dot above all others that may be.
var greatest = api.Dot{Replica: 31, Seq: 1 << 40}

// edges is numbers near to where something begins: 0, the limits, what floats hold, the halves of 64 bits, and their ends; rising, each once.
func edges() []int64 {
	var l []int64
	for _, at := range []int64{0, 31, 1 << 16, 1 << 24, 1 << 31, 1 << 32, 1<<32 + 1<<31, 1 << 33, 1 << 40, 1 << 53, 1<<53 + 1<<32, 1 << 54, 1 << 62, 1<<62 + 1<<32} {
		for n := at - 2; n <= at+2; n++ {
			l = append(l, n, -n)
		}
	}
	for i := range int64(3) {
		l = append(l, math.MaxInt64-i, math.MinInt64+i, math.MaxInt64-1024-i, math.MinInt64+1024+i)
	}
	slices.Sort(l)
	return slices.Compact(l)
}

// plainCompare is Compare, told by the chapter's words.
func plainCompare(a, b api.Dot) int {
	if c := big.NewInt(int64(a.Replica)).Cmp(big.NewInt(int64(b.Replica))); c != 0 {
		return c
	}
	return big.NewInt(a.Seq).Cmp(big.NewInt(b.Seq))
}

// ordered holds that Compare tells want of a and b, and the contrary of b and a.
func ordered(t *testing.T, a, b api.Dot, want int) {
	t.Helper()
	if c := Compare(a, b); c != want {
		t.Fatalf("Compare(%d, %d) = %d, not %d", a, b, c, want)
	}
	if c := Compare(b, a); c != -want {
		t.Fatalf("Compare(%d, %d) = %d, not %d", b, a, c, -want)
	}
}

// next holds what Next tells of d.
func next(t *testing.T, d, want api.Dot, wrong api.Errno) {
	t.Helper()
	if n, e := Next(d); n != want || e != wrong {
		t.Fatalf("Next(%d) = %d, %d, not %d, %d", d, n, e, want, wrong)
	}
}

// parsed holds that s is the text of d, and d the dot of s.
func parsed(t *testing.T, s string, d api.Dot) {
	t.Helper()
	if got := Text(d); got != s {
		t.Fatalf("Text(%d) = %q, not %q", d, got, s)
	}
	if got, e := Parse(s); got != d || e != api.OK {
		t.Fatalf("Parse(%q) = %d, %d, not %d", s, got, e, d)
	}
}

// noDot holds that s is the text of none that may be.
func noDot(t *testing.T, s string) {
	t.Helper()
	if d, e := Parse(s); d != (api.Dot{}) || e != api.ErrForm {
		t.Fatalf("Parse(%q) = %d, %d", s, d, e)
	}
}

// plainParse is the dot that may be of which s is the text, told by the chapter's words: numbers are read by the standard library and told again.
func plainParse(s string) (api.Dot, bool) {
	for i := range len(s) {
		if s[i] != ':' {
			continue
		}
		replica, _ := strconv.Atoi(s[:i])
		seq, _ := strconv.ParseInt(s[i+1:], 10, 64)
		if replica >= 0 && replica < 32 && seq >= 1 && seq <= 1<<40 && fmt.Sprintf("%d:%d", replica, seq) == s {
			return api.Dot{Replica: replica, Seq: seq}, true
		}
	}
	return api.Dot{}, false
}

// holds holds that s is parsed as the chapter's words have it, and tells whether it is a dot's text.
func holds(t *testing.T, s string) bool {
	t.Helper()
	d, ok := plainParse(s)
	if ok {
		parsed(t, s, d)
	} else {
		noDot(t, s)
	}
	return ok
}

// dots is dots that may be: edges of their numbers at all replicas, and some of a fixed rule.
func dots() []api.Dot {
	var l []api.Dot
	for replica := range 32 {
		for _, seq := range edges() {
			if seq >= 1 && seq <= 1<<40 {
				l = append(l, api.Dot{Replica: replica, Seq: seq})
			}
		}
	}
	c := chain(3)
	for range 500 {
		l = append(l, api.Dot{Replica: int(c.word() >> 9 % 32), Seq: int64(1 + c.word()>>9%(1<<(c.word()>>9%41)))})
	}
	return l
}

func TestP9_1CompareExamples(t *testing.T) {
	for _, c := range []struct {
		a, b api.Dot
		want int
	}{
		{api.Dot{}, api.Dot{}, 0},
		{api.Dot{Replica: 3, Seq: 17}, api.Dot{Replica: 3, Seq: 17}, 0},
		{api.Dot{Replica: 3, Seq: 16}, api.Dot{Replica: 3, Seq: 17}, -1},
		{api.Dot{Replica: 2, Seq: 17}, api.Dot{Replica: 3, Seq: 16}, -1},
		{api.Dot{Replica: 3, Seq: 9}, api.Dot{Replica: 3, Seq: 10}, -1},
		{api.Dot{Replica: 9, Seq: 1}, api.Dot{Replica: 10, Seq: 1}, -1},
		{api.Dot{Replica: 0, Seq: 1 << 40}, api.Dot{Replica: 1, Seq: 1}, -1},
		{api.Dot{Replica: -1, Seq: math.MaxInt64}, api.Dot{Replica: 0, Seq: math.MinInt64}, -1},
		{api.Dot{Replica: 3, Seq: -1}, api.Dot{Replica: 3, Seq: 0}, -1},
		{api.Dot{Replica: 3, Seq: math.MaxInt64 - 1}, api.Dot{Replica: 3, Seq: math.MaxInt64}, -1},
		{api.Dot{Replica: 3, Seq: math.MinInt64}, api.Dot{Replica: 3, Seq: math.MaxInt64}, -1},
		{api.Dot{Replica: math.MinInt}, api.Dot{Replica: math.MinInt + 1}, -1},
		{api.Dot{Replica: math.MaxInt - 1, Seq: 9}, api.Dot{Replica: math.MaxInt, Seq: 8}, -1},
		{api.Dot{Replica: math.MinInt, Seq: math.MaxInt64}, api.Dot{Replica: math.MaxInt, Seq: math.MinInt64}, -1},
		{api.Dot{Replica: 1 << 53, Seq: 9}, api.Dot{Replica: 1<<53 + 1, Seq: 8}, -1},
		{api.Dot{Seq: 1 << 53}, api.Dot{Seq: 1<<53 + 1}, -1},
	} {
		ordered(t, c.a, c.b, c.want)
	}
}

// TestP9_1Compare has all numbers near to an edge, as replicas and as numbers.
func TestP9_1Compare(t *testing.T) {
	l := edges()
	for i, m := range l {
		for j, n := range l {
			want := 0
			if i < j {
				want = -1
			} else if i > j {
				want = 1
			}
			for _, other := range []int64{0, 7, math.MinInt64, math.MaxInt64} {
				ordered(t, api.Dot{Replica: int(other), Seq: m}, api.Dot{Replica: int(other), Seq: n}, want)
				ordered(t, api.Dot{Replica: int(m), Seq: other}, api.Dot{Replica: int(n), Seq: other}, want)
			}
			if want != 0 {
				ordered(t, api.Dot{Replica: int(m), Seq: n}, api.Dot{Replica: int(n), Seq: m}, want)
			}
		}
	}
}

// TestP9_1CompareAny has dots of a fixed rule, and beside them such as differ by little, or in one bit.
func TestP9_1CompareAny(t *testing.T) {
	c := chain(5)
	for range 20000 {
		a := api.Dot{Replica: int(c.number()), Seq: c.number()}
		b := api.Dot{Replica: int(c.number()), Seq: c.number()}
		bit := int64(1) << (c.word() >> 9 % 64)
		for _, d := range []api.Dot{
			b, {Replica: a.Replica, Seq: b.Seq}, {Replica: b.Replica, Seq: a.Seq},
			{Replica: a.Replica, Seq: a.Seq + 1}, {Replica: a.Replica + 1, Seq: a.Seq}, {Replica: a.Replica + 1, Seq: a.Seq - 1},
			{Replica: a.Replica, Seq: a.Seq ^ bit}, {Replica: a.Replica ^ int(bit), Seq: a.Seq}, {Replica: a.Replica ^ int(bit), Seq: b.Seq},
		} {
			ordered(t, a, d, plainCompare(a, d))
		}
		ordered(t, a, a, 0)
	}
}

func TestP9_1MayExamples(t *testing.T) {
	for _, c := range []struct {
		d    api.Dot
		want bool
	}{
		{api.Dot{}, false},
		{api.Dot{Replica: 0, Seq: 1}, true},
		{api.Dot{Replica: 3, Seq: 17}, true},
		{api.Dot{Replica: 31, Seq: 1}, true},
		{greatest, true},
		{api.Dot{Replica: 32, Seq: 1}, false},
		{api.Dot{Replica: -1, Seq: 1}, false},
		{api.Dot{Replica: 31, Seq: 0}, false},
		{api.Dot{Replica: 31, Seq: -1}, false},
		{api.Dot{Replica: 31, Seq: 1<<40 + 1}, false},
		{api.Dot{Replica: 32, Seq: 0}, false},
		{api.Dot{Replica: math.MaxInt, Seq: math.MaxInt64}, false},
		{api.Dot{Replica: math.MinInt, Seq: math.MinInt64}, false},
	} {
		if got := May(c.d); got != c.want {
			t.Errorf("May(%d) = %t", c.d, got)
		}
	}
}

// TestP9_1MayAndNext has all numbers near to an edge, as replicas with numbers.
func TestP9_1MayAndNext(t *testing.T) {
	replicas := edges()
	for n := int64(-40); n < 80; n++ {
		replicas = append(replicas, n)
	}
	for _, replica := range replicas {
		for _, seq := range edges() {
			d := api.Dot{Replica: int(replica), Seq: seq}
			known := replica >= 0 && replica <= 31
			if got := May(d); got != (known && seq >= 1 && seq <= 1<<40) {
				t.Fatalf("May(%d) = %t", d, got)
			}
			switch {
			case !known || seq < 0 || seq > 1<<40:
				next(t, d, api.Dot{}, api.ErrArg)
			case seq == 1<<40:
				next(t, d, api.Dot{}, api.ErrOver)
			default:
				next(t, d, api.Dot{Replica: int(replica), Seq: seq + 1}, api.OK)
			}
		}
	}
}

func TestP9_1NextExamples(t *testing.T) {
	for _, c := range []struct {
		d, want api.Dot
		e       api.Errno
	}{
		{api.Dot{}, api.Dot{Seq: 1}, api.OK},
		{api.Dot{Replica: 3, Seq: 0}, api.Dot{Replica: 3, Seq: 1}, api.OK},
		{api.Dot{Replica: 3, Seq: 17}, api.Dot{Replica: 3, Seq: 18}, api.OK},
		{api.Dot{Replica: 31, Seq: 0}, api.Dot{Replica: 31, Seq: 1}, api.OK},
		{api.Dot{Replica: 31, Seq: 1<<40 - 1}, greatest, api.OK},
		{greatest, api.Dot{}, api.ErrOver},
		{api.Dot{Replica: 0, Seq: 1 << 40}, api.Dot{}, api.ErrOver},
		{api.Dot{Replica: 0, Seq: 1<<40 + 1}, api.Dot{}, api.ErrArg},
		{api.Dot{Replica: 0, Seq: -1}, api.Dot{}, api.ErrArg},
		{api.Dot{Replica: -1, Seq: 0}, api.Dot{}, api.ErrArg},
		{api.Dot{Replica: 32, Seq: 0}, api.Dot{}, api.ErrArg},
		{api.Dot{Replica: 32, Seq: 1 << 40}, api.Dot{}, api.ErrArg},
		{api.Dot{Replica: -1, Seq: 1 << 40}, api.Dot{}, api.ErrArg},
		{api.Dot{Replica: 0, Seq: math.MaxInt64}, api.Dot{}, api.ErrArg},
		{api.Dot{Replica: 0, Seq: math.MinInt64}, api.Dot{}, api.ErrArg},
		{api.Dot{Replica: math.MaxInt, Seq: 5}, api.Dot{}, api.ErrArg},
		{api.Dot{Replica: math.MinInt, Seq: 5}, api.Dot{}, api.ErrArg},
	} {
		next(t, c.d, c.want, c.e)
	}
}

func TestP9_2Examples(t *testing.T) {
	for s, d := range map[string]api.Dot{
		"3:17": {Replica: 3, Seq: 17}, "0:1": {Replica: 0, Seq: 1}, "10:10": {Replica: 10, Seq: 10}, "31:1": {Replica: 31, Seq: 1},
		"0:1099511627776": {Replica: 0, Seq: 1 << 40}, "31:1099511627776": greatest, "9:999": {Replica: 9, Seq: 999},
	} {
		parsed(t, s, d)
	}
	// These dots may not be: they have a text, but none is parsed of it.
	for s, d := range map[string]api.Dot{
		"0:0": {}, "3:0": {Replica: 3}, "32:1": {Replica: 32, Seq: 1}, "-1:1": {Replica: -1, Seq: 1}, "0:-1": {Replica: 0, Seq: -1}, "-12:-34": {Replica: -12, Seq: -34},
		"0:1099511627777": {Replica: 0, Seq: 1<<40 + 1}, "4294967296:1": {Replica: 1 << 32, Seq: 1}, "4294967299:17": {Replica: 1<<32 + 3, Seq: 17},
		"9223372036854775807:9223372036854775807":   {Replica: math.MaxInt, Seq: math.MaxInt64},
		"-9223372036854775808:-9223372036854775808": {Replica: math.MinInt, Seq: math.MinInt64},
	} {
		if got := Text(d); got != s {
			t.Errorf("Text(%d) = %q, not %q", d, got, s)
		}
		noDot(t, s)
	}
}

// TestP9_2TextAndParse has all numbers near to an edge, as replicas with numbers.
func TestP9_2TextAndParse(t *testing.T) {
	for _, replica := range edges() {
		for _, seq := range edges() {
			s := fmt.Sprintf("%d:%d", replica, seq)
			if got := Text(api.Dot{Replica: int(replica), Seq: seq}); got != s {
				t.Fatalf("Text of %s = %q", s, got)
			}
			may := replica >= 0 && replica <= 31 && seq >= 1 && seq <= 1<<40
			if holds(t, s) != may {
				t.Fatalf("%q: a dot's text: %t", s, !may)
			}
		}
	}
}

// TestP9_2ParseShort has all texts of few bytes of a few kinds.
func TestP9_2ParseShort(t *testing.T) {
	const kinds = "0123:9- +"
	texts, count := []string{""}, 0
	for from := 0; from < len(texts); from++ {
		if holds(t, texts[from]) {
			count++
		}
		if len(texts[from]) == 5 {
			continue
		}
		for _, k := range kinds {
			texts = append(texts, texts[from]+string(k))
		}
	}
	// Replicas of one figure (0 to 3, 9) and of two (10 to 13, 19, 20 to 23, 29, 30, 31), numbers of what figures have room behind.
	if want := 5*(4+4*5+4*5*5) + 12*(4+4*5); count != want {
		t.Fatalf("%d texts are dots', not %d", count, want)
	}
}

// TestP9_2ParseAnyByte has each byte at each place of texts, in place of what stands there, and between.
func TestP9_2ParseAnyByte(t *testing.T) {
	for _, s := range []string{"3:17", "31:1099511627776", "0:1", "20:500"} {
		for i := range len(s) + 1 {
			for c := range 256 {
				b := string([]byte{byte(c)})
				holds(t, s[:i]+b+s[i:])
				if i < len(s) {
					holds(t, s[:i]+b+s[i+1:])
				}
			}
			if i < len(s) {
				holds(t, s[:i])
				holds(t, s[i+1:])
				holds(t, s[:i]+s[i+1:])
			}
		}
	}
}

func TestP9_2ParseWrong(t *testing.T) {
	for _, s := range []string{
		"", ":", "::", "3", "17", "3:", ":17", ":3:17", "3::17", "3:17:", "3:17:1", "3:1:7", "3 17", "3.17", "3-17", "3;17", "3,17", "3/17", "3\x00:17",
		" 3:17", "3:17 ", "3 :17", "3: 17", "3:17\n", "3:17\x00", "\x003:17", "3:17,4:1", "(3+17i)", "{3 17}", "a~3-17",
		"03:17", "3:017", "00:1", "0:01", "003:1", "+3:17", "3:+17", "-3:17", "3:-17", "-0:1", "0:-1", "3:0", "3:00", "0:0", "-1:0",
		"32:1", "33:1", "99:1", "100:1", "310:1", "256:1", "259:17", "4294967296:1", "4294967299:17", "18446744073709551616:1", "18446744073709551619:17",
		"0:1099511627777", "31:1099511627777", "0:10995116277760", "0:9223372036854775807", "0:9223372036854775808", "0:18446744073709551617", "3:18446744073709551633",
		"3:1e1", "1e1:3", "3:0x11", "0x3:17", "3:1_7", "3:17.0", "3.0:17", "a:1", "3:a", "3:1a", "f:1", "1f:1", "3:f",
		"\u0663:17", "\uff13:17", "3\uff1a17", "3:\u0661\u0667", "3:17\u00a0", "\xff:1", "3:\xff", "\ufeff3:17",
		strings.Repeat("0", 1<<20) + "3:17", "3:" + strings.Repeat("0", 1<<20) + "17", "3:" + strings.Repeat("1", 1<<20), strings.Repeat("3", 1<<20), strings.Repeat(":", 1<<20), strings.Repeat("3:17", 1<<18),
	} {
		noDot(t, s)
	}
}

// TestP9_3OneOrder holds dots that were sorted against all behind them: each is below, or the same.
func TestP9_3OneOrder(t *testing.T) {
	var l []api.Dot
	c := chain(7)
	for range 300 {
		l = append(l, api.Dot{Replica: int(c.word()>>9%9) - 4, Seq: int64(c.word()>>9%9) - 4}, api.Dot{Replica: int(c.number()), Seq: c.number()})
	}
	slices.SortFunc(l, Compare)
	for i, a := range l {
		for _, b := range l[i:] {
			want := -1
			if a == b {
				want = 0
			}
			ordered(t, a, b, want)
		}
	}
}

// TestP9_3NextIsFirstAbove holds that nothing stands between a dot and the next one.
func TestP9_3NextIsFirstAbove(t *testing.T) {
	all := dots()
	for i, d := range all {
		n, e := Next(d)
		if d.Seq == 1<<40 {
			next(t, d, api.Dot{}, api.ErrOver)
			continue
		}
		if e != api.OK || !May(n) {
			t.Fatalf("Next(%d) = %d, %d, which may not be", d, n, e)
		}
		ordered(t, d, n, -1)
		others := append([]api.Dot{{Replica: d.Replica, Seq: math.MaxInt64}, {Replica: d.Replica + 1, Seq: math.MinInt64}}, all[i%7:]...)
		for _, other := range others {
			if above := Compare(other, d) > 0; above != (Compare(other, n) >= 0) {
				t.Fatalf("%d stands between %d and the next one, %d", other, d, n)
			}
		}
	}
	for replica := range 32 {
		d := api.Dot{Replica: replica}
		for want := int64(1); want <= 1000; want++ {
			n, e := Next(d)
			if n != (api.Dot{Replica: replica, Seq: want}) || e != api.OK {
				t.Fatalf("Next(%d) = %d, %d", d, n, e)
			}
			d = n
		}
	}
}

// TestP9_3ThereAndBack holds that each dot that may be is parsed as it was, and that its text is told as it stood.
func TestP9_3ThereAndBack(t *testing.T) {
	texts := map[string]api.Dot{}
	for _, d := range dots() {
		s := Text(d)
		back, e := Parse(s)
		if back != d || e != api.OK {
			t.Fatalf("Parse(Text(%d)) = %d, %d", d, back, e)
		}
		if again := Text(back); again != s {
			t.Fatalf("the Text of Parse(%q) is %q", s, again)
		}
		if other, ok := texts[s]; ok && other != d {
			t.Fatalf("%d and %d have one text, %q", d, other, s)
		}
		texts[s] = d
	}
}
