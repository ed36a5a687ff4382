package path

import (
	"math"
	"slices"
	"strings"
	"testing"

	"bindle/api"
)

// chain tells numbers of a fixed rule, one after the other.
type chain uint64

func (c *chain) word() uint64 {
	*c = *c*6364136223846793005 + 1442695040888963407
	return uint64(*c) ^ uint64(*c)>>33
}

// below tells a number of a fixed rule from 0 on, ahead of n.
func (c *chain) below(n int) int {
	return int(c.word() >> 9 % uint64(n))
}

// letters is all bytes that parts have.
const letters = "abcdefghijklmnopqrstuvwxyzABCDEFGHIJKLMNOPQRSTUVWXYZ0123456789-._+~"

// text tells n bytes of a fixed rule out of those of kinds.
func (c *chain) text(n int, kinds string) string {
	b := make([]byte, n)
	for i := range b {
		b[i] = kinds[c.below(len(kinds))]
	}
	return string(b)
}

// as is n letters a.
func as(n int) string {
	return strings.Repeat("a", n)
}

// plainParts is whether s is parts with / between, told by the chapter's words.
func plainParts(s string) bool {
	for _, part := range strings.Split(s, "/") {
		if len(part) < 1 || len(part) > 100 || part == "." || part == ".." {
			return false
		}
		for _, c := range []byte(part) {
			if strings.IndexByte(letters, c) < 0 {
				return false
			}
		}
	}
	return true
}

// plainSplit is the Split of s, told by the chapter's words; false where it is an error.
func plainSplit(s string) (string, string, bool) {
	if !plainParts(s) || len(s) > 254 {
		return "", "", false
	}
	if len(s) <= 100 {
		return "", s, true
	}
	for i := range len(s) {
		if s[i] == '/' && len(s[i+1:]) <= 100 {
			if len(s[:i]) > 155 {
				return "", "", false
			}
			return s[:i], s[i+1:], true
		}
	}
	return "", "", false
}

// noPath holds that s is none, for all that ask.
func noPath(t *testing.T, s string) {
	t.Helper()
	if p, n, e := Split(s); p != "" || n != "" || e != api.ErrPath {
		t.Fatalf("Split(%q) = %q, %q, %d", s, p, n, e)
	}
	if May(s) {
		t.Fatalf("May(%q)", s)
	}
	if Own(s) {
		t.Fatalf("Own(%q)", s)
	}
	noJoin(t, "", s)
}

// noJoin holds that prefix and name are the Split of no path.
func noJoin(t *testing.T, prefix, name string) {
	t.Helper()
	if s, e := Join(prefix, name); s != "" || e != api.ErrPath {
		t.Fatalf("Join(%q, %q) = %q, %d", prefix, name, s, e)
	}
}

// isSplit holds that s is a path, and prefix and name its Split.
func isSplit(t *testing.T, s, prefix, name string) {
	t.Helper()
	if p, n, e := Split(s); p != prefix || n != name || e != api.OK {
		t.Fatalf("Split(%q) = %q, %q, %d, not %q, %q", s, p, n, e, prefix, name)
	}
	if !May(s) {
		t.Fatalf("not May(%q)", s)
	}
	if got, e := Join(prefix, name); got != s || e != api.OK {
		t.Fatalf("Join(%q, %q) = %q, %d, not %q", prefix, name, got, e, s)
	}
}

// asPlain holds that s is a path, or none, as the chapter's words have it; it tells which.
func asPlain(t *testing.T, s string) bool {
	t.Helper()
	p, n, ok := plainSplit(s)
	if ok {
		isSplit(t, s, p, n)
	} else {
		noPath(t, s)
	}
	return ok
}

func TestP6_1Examples(t *testing.T) {
	for _, s := range []string{
		"a", "Z", "0", "-", "_", "+", "~", "a/b", "a/b.c", "...", "..a", "a..", ".a", "a.", ".a.", "-/_/+/~", "....", ".../....",
		"a/b/c/d/e/f/g", "A-Z.0_9+~", "x~1-2", "con", "a.tar.gz", ".git/config", "~~", "--", as(100), as(98) + "/b",
	} {
		isSplit(t, s, "", s)
	}
	for _, s := range []string{
		"", "/", "//", ".", "..", "/a", "a/", "/a/", "a//b", "a///b", "./a", "../a", "a/.", "a/..", "a/./b", "a/../b", "./.", "../..", ".../..", "a/b/.",
		" ", "a b", " a", "a ", "a\\b", "a\x00", "\x00", "a\nb", "a\n", "\t", "a:b", "a*", "?", "\"a\"", "a,b", "a@b", "a#", "$a", "a%b", "a&b", "(a)", "a=b", "[a]", "{a}", "a|b", "a;b", "<a>", "^", "`", "!", "'",
		"\u00e9", "a\u00e9", "\u0430", "\uff41", "a\u2215b", "\u2024", "\u0661", "a\xff", "\x80", "a/\x7f", "\u212a", "\u017f",
	} {
		noPath(t, s)
	}
}

// TestP6_1AnyByte has each byte at each place of a path: it may stand in a part, it parts, or there is no path.
func TestP6_1AnyByte(t *testing.T) {
	for v := range 256 {
		c := string([]byte{byte(v)})
		for _, s := range []string{"a", "abc", "a/b/c", "..", ".a", "a/..", "abc/def.g", as(100), as(30) + "/" + as(30), as(100) + "/" + as(50)} {
			for i := range s {
				asPlain(t, s[:i]+c+s[i+1:])
			}
			for i := range len(s) + 1 {
				asPlain(t, s[:i]+c+s[i:])
			}
		}
		if ok := strings.Contains(letters, c); ok && v != '.' {
			isSplit(t, c, "", c)
		} else {
			noPath(t, c)
		}
	}
}

// TestP6_1ShortTexts has all texts of few bytes of a few kinds.
func TestP6_1ShortTexts(t *testing.T) {
	texts := []string{""}
	count := 0
	for from := 0; from < len(texts); from++ {
		s := texts[from]
		if asPlain(t, s) {
			count++
		}
		if len(s) == 6 {
			continue
		}
		for _, k := range []string{"a", ".", "/", "~", " "} {
			texts = append(texts, s+k)
		}
	}
	if count < 1000 || count > len(texts)/2 {
		t.Fatalf("%d of %d texts are paths", count, len(texts))
	}
}

// TestP6_1PartLengths has parts of all lengths, alone and beside others.
func TestP6_1PartLengths(t *testing.T) {
	for n := range 400 {
		part := as(n)
		if n >= 1 && n <= 100 {
			isSplit(t, part, "", part)
		} else {
			noPath(t, part)
		}
		for _, s := range []string{"b/" + part, part + "/b", "b/" + part + "/b"} {
			if ok := asPlain(t, s); ok != (n >= 1 && n <= 100) {
				t.Fatalf("a part of %d bytes: %v", n, ok)
			}
		}
		points := strings.Repeat(".", n)
		if n >= 3 && n <= 100 {
			isSplit(t, points, "", points)
		} else {
			noPath(t, points)
		}
	}
	noPath(t, as(1<<20))
	noPath(t, strings.Repeat("a/", 1<<19)+"a")
	noPath(t, strings.Repeat("/", 1<<20))
}

func TestP6_1SplitEdges(t *testing.T) {
	// Up to 100 bytes there is no prefix, however many parts there are.
	short := strings.Repeat("a/", 49) + "bc"
	isSplit(t, short, "", short)
	isSplit(t, short+"c", "a", short[2:]+"c")
	isSplit(t, as(98)+"/b", "", as(98)+"/b")
	isSplit(t, as(99)+"/b", as(99), "b")
	isSplit(t, as(100)+"/b", as(100), "b")
	isSplit(t, "b/"+as(98), "", "b/"+as(98))
	isSplit(t, "b/"+as(99), "b", as(99))
	isSplit(t, "b/"+as(100), "b", as(100))
	// The first / counts behind which 100 bytes at most stand.
	isSplit(t, as(100)+"/b/"+as(98), as(100), "b/"+as(98))
	isSplit(t, as(100)+"/b/"+as(99), as(100)+"/b", as(99))
	isSplit(t, as(100)+"/b/c/d", as(100), "b/c/d")
	isSplit(t, as(50)+"/"+as(49)+"/"+as(50), as(50), as(49)+"/"+as(50))
	isSplit(t, as(50)+"/"+as(50)+"/"+as(50), as(50)+"/"+as(50), as(50))
	// Ahead of it 155 bytes at most, and 254 in all.
	isSplit(t, as(100)+"/"+as(54)+"/"+as(98), as(100)+"/"+as(54), as(98))
	isSplit(t, as(100)+"/"+as(53)+"/"+as(99), as(100)+"/"+as(53), as(99))
	isSplit(t, as(100)+"/"+as(52)+"/"+as(100), as(100)+"/"+as(52), as(100))
	isSplit(t, as(54)+"/"+as(100)+"/"+as(98), as(54)+"/"+as(100), as(98))
	noPath(t, as(100)+"/"+as(55)+"/"+as(97))
	noPath(t, as(100)+"/"+as(55)+"/"+as(60))
	isSplit(t, as(100)+"/"+as(54)+"/"+as(60), as(100)+"/"+as(54), as(60))
	noPath(t, as(100)+"/"+as(56)+"/"+as(95))
	noPath(t, as(100)+"/"+as(100)+"/b")
	noPath(t, as(100)+"/"+as(53)+"/"+as(100))
	noPath(t, as(100)+"/"+as(54)+"/"+as(99))
	isSplit(t, strings.Repeat("a/", 77)+as(100), strings.Repeat("a/", 76)+"a", as(100))
	noPath(t, strings.Repeat("a/", 78)+as(100))
	isSplit(t, strings.Repeat("a/", 126)+"bb", strings.Repeat("a/", 76)+"a", strings.Repeat("a/", 49)+"bb")
	noPath(t, strings.Repeat("a/", 127)+"b")
}

// TestP6_1AllLengths has paths of all lengths with one byte / or two at all places.
func TestP6_1AllLengths(t *testing.T) {
	count := 0
	for n := 95; n <= 260; n++ {
		b := []byte(as(n))
		for i := range b {
			b[i] = '/'
			asPlain(t, string(b))
			step := 1
			if n < 250 {
				step = 7
			}
			for j := i + 1; j < n; j += step {
				b[j] = '/'
				if asPlain(t, string(b)) {
					count++
				}
				b[j] = 'a'
			}
			b[i] = 'a'
		}
	}
	if count < 10000 {
		t.Fatalf("only %d paths", count)
	}
}

func TestP6_1JoinExamples(t *testing.T) {
	for _, c := range [][2]string{
		{"", ""}, {"a", ""}, {"/", ""}, {"a", "b"}, {"a/b", "c"}, {"", "/a"}, {"", "a/"}, {"", "."}, {"", ".."}, {"a", "."}, {"a", ".."}, {".", "a"},
		{"", as(101)}, {"", as(99) + "/b"}, {"", as(100) + "/b"}, {as(98), "b"}, {as(100), ""}, {as(100), "/b"}, {as(100) + "/", "b"}, {as(100), "b/"}, {"/" + as(99), "b"},
		{as(100) + "/b", "c"}, {as(100), "b//c"}, {as(101), "b"}, {as(100), as(101)}, {as(100), "b c"}, {as(99) + " ", "b"}, {as(99) + "\x00", "b"}, {as(100), "\xff"},
		{as(100) + "/" + as(55), as(97)}, {as(100) + "/" + as(53), as(100)}, {as(100), as(100) + "/" + as(52)}, {as(100), as(52) + "/" + as(100)},
		{as(1 << 20), "b"}, {"b", as(1 << 20)}, {as(1 << 20), as(1 << 20)},
	} {
		noJoin(t, c[0], c[1])
	}
	for _, c := range [][2]string{
		{"", "a"}, {"", "a/b"}, {"", as(100)}, {as(99), "b"}, {as(100), "b"}, {"b", as(100)}, {as(100), "b/c"}, {as(100) + "/" + as(54), as(98)},
	} {
		want := strings.TrimPrefix(c[0]+"/"+c[1], "/")
		if s, e := Join(c[0], c[1]); s != want || e != api.OK {
			t.Errorf("Join(%q, %q) = %q, %d", c[0], c[1], s, e)
		}
	}
}

// TestP6_1JoinAnyPlace has texts that are laid apart at each byte /: but one place at most is their Split's.
func TestP6_1JoinAnyPlace(t *testing.T) {
	c := chain(3)
	joined := 0
	for range 3000 {
		s := c.path(1 + c.below(254))
		p, n, ok := plainSplit(s)
		for i := range s {
			if s[i] != '/' {
				continue
			}
			got, e := Join(s[:i], s[i+1:])
			if ok && i > 0 && s[:i] == p && s[i+1:] == n {
				joined++
				if got != s || e != api.OK {
					t.Fatalf("Join(%q, %q) = %q, %d", p, n, got, e)
				}
			} else if i > 0 && (got != "" || e != api.ErrPath) {
				t.Fatalf("Join(%q, %q) = %q, %d", s[:i], s[i+1:], got, e)
			}
		}
		if got, e := Join("", s); ok && p == "" && (got != s || e != api.OK) || (!ok || p != "") && (got != "" || e != api.ErrPath) {
			t.Fatalf("Join(\"\", %q) = %q, %d", s, got, e)
		}
	}
	if joined < 500 {
		t.Fatalf("only %d joined", joined)
	}
}

// path tells n bytes of a fixed rule that are parts with / between, most often.
func (c *chain) path(n int) string {
	b := []byte(c.text(n, letters))
	for i := c.below(60); i < n; i += 2 + c.below(100) {
		b[i] = '/'
	}
	return string(b)
}

func TestP6_1Own(t *testing.T) {
	long := strings.Repeat("a/", 60) // 120 bytes
	for _, s := range []string{
		"a", "a/b", "...", ".a", "-", "+", "_", "0", "a-1", "1-2", as(83), "a/" + as(83), as(100) + "/b", as(100) + "/" + as(83), long + as(80),
		strings.Repeat("a/", 99) + "bb", as(100) + "/" + as(54) + "/" + as(44), as(54) + "/" + as(100) + "/" + as(44),
	} {
		if !Own(s) {
			t.Errorf("not Own(%q)", s)
		}
	}
	for _, s := range []string{
		"", ".", "..", "/", "/a", "a/", "a//b", "a b", "\u00e9", "a\x00", "~", "a~", "~a", "a~/b", "a/~", "a~1-2", "a~0-1", as(84), as(100), "a/" + as(84), "a/" + as(100), as(100) + "/" + as(84), as(100) + "/" + as(99),
		long + as(81), strings.Repeat("a/", 100) + "b", strings.Repeat("a/", 98) + "bc/de", as(100) + "/" + as(55) + "/" + as(44), as(100) + "/" + as(98) + "/b",
	} {
		if Own(s) {
			t.Errorf("Own(%q)", s)
		}
	}
}

// plainOwn is whether s is a user's path, told by the chapter's words.
func plainOwn(s string) bool {
	_, _, ok := plainSplit(s)
	_, _, copied := plainSplit(s + "~31-1099511627776")
	return ok && copied && len(s) <= 200 && !strings.Contains(s, "~")
}

// TestP6_1OwnAllLengths has paths of all lengths with a byte / or two at all places, and with a byte ~ at each.
func TestP6_1OwnAllLengths(t *testing.T) {
	hold := func(b []byte) {
		if s := string(b); Own(s) != plainOwn(s) {
			t.Fatalf("Own(%q) = %v", s, Own(s))
		}
	}
	for n := range 210 {
		b := []byte(as(n))
		hold(b)
		for i := range b {
			b[i] = '~'
			hold(b)
			b[i] = '/'
			hold(b)
			for j := i + 1; j < n; j += 1 + n/30 {
				b[j] = '/'
				hold(b)
				b[j] = '~'
				hold(b)
				b[j] = 'a'
			}
			b[i] = 'a'
		}
	}
	// Of several parts all that counts are 200 bytes, and 83 of the last part.
	for n := 190; n <= 210; n++ {
		s := strings.Repeat("b/", n/2)[:n-3] + "abc"
		if Own(s) != (n <= 200) {
			t.Fatalf("Own of %d bytes: %v", n, Own(s))
		}
	}
}

func TestP6_2Under(t *testing.T) {
	for _, c := range []struct {
		s, dir string
		want   bool
	}{
		{"a/b", "a", true}, {"a/b/c", "a", true}, {"a/b/c", "a/b", true}, {"abc/d", "abc", true}, {"a/~", "a", true},
		{"a", "a", false}, {"a/", "a", false}, {"ab", "a", false}, {"ab/c", "a", false}, {"a", "a/b", false}, {"a/b", "a/b", false}, {"b/a", "a", false}, {"a/b", "b", false}, {"a/b", "A", false},
		{"a/b/c", "a/b/c", false}, {"a/b/c", "b", false}, {"a/b/c", "a/c", false}, {"c/a/b", "a", false}, {"a.b/c", "a", false}, {"a-b", "a", false}, {"a0b", "a", false}, {"a\x00b", "a", false}, {"a\\b", "a", false},
		// Neither need be a path.
		{"", "", false}, {"/", "", false}, {"/a", "", true}, {"a", "", false}, {"//", "", true}, {"a//", "a", true}, {"a//b", "a", true}, {"a//b", "a/", true}, {"a/b", "a/", false}, {"a//", "a/", false}, {"//", "/", false}, {"///", "/", true},
		{"", "a", false}, {"a/\x00", "a", true}, {"\xff/ ", "\xff", true}, {"../..", "..", true}, {as(1<<20) + "/b", as(1 << 20), true}, {as(1 << 20), as(1<<20) + "/b", false}, {as(1<<20) + "/", as(1 << 20), false},
	} {
		if got := Under(c.s, c.dir); got != c.want {
			t.Errorf("Under(%q, %q) = %v", c.s, c.dir, got)
		}
	}
}

// TestP6_2Short has all texts of few bytes of a few kinds, each below each.
func TestP6_2Short(t *testing.T) {
	texts := []string{""}
	for from := 0; len(texts[from]) < 4; from++ {
		for _, k := range []string{"a", "b", "/", "."} {
			texts = append(texts, texts[from]+k)
		}
	}
	for _, s := range texts {
		var want []string
		for i := range s {
			if s[i] == '/' {
				want = append(want, s[:i])
			}
		}
		if got := Parents(s); !slices.Equal(got, want) {
			t.Fatalf("Parents(%q) = %q, not %q", s, got, want)
		}
		for _, dir := range texts {
			under := len(s) >= len(dir)+2 && s[:len(dir)+1] == dir+"/"
			if got := Under(s, dir); got != under {
				t.Fatalf("Under(%q, %q) = %v", s, dir, got)
			}
		}
	}
}

func TestP6_2Parents(t *testing.T) {
	for _, c := range []struct {
		s    string
		want []string
	}{
		{"", nil}, {"a", nil}, {"abc.d", nil}, {"a/b", []string{"a"}}, {"a/b/c", []string{"a", "a/b"}}, {"ab/cd/ef/gh", []string{"ab", "ab/cd", "ab/cd/ef"}},
		{"a~1-2/b", []string{"a~1-2"}}, {"../..", []string{".."}}, {"\xff/\x00/ ", []string{"\xff", "\xff/\x00"}},
		// It need not be a path.
		{"/", []string{""}}, {"/a", []string{""}}, {"a/", []string{"a"}}, {"//", []string{"", "/"}}, {"a//b", []string{"a", "a/"}}, {"/a/", []string{"", "/a"}}, {"a\\b", nil},
	} {
		if got := Parents(c.s); !slices.Equal(got, c.want) {
			t.Errorf("Parents(%q) = %q, not %q", c.s, got, c.want)
		}
	}
	great := strings.Repeat("a/", 1<<16)
	parents := Parents(great)
	if len(parents) != 1<<16 {
		t.Fatalf("%d parents", len(parents))
	}
	for i, parent := range parents {
		if parent != great[:2*i+1] {
			t.Fatalf("the parent %d has %d bytes", i, len(parent))
		}
	}
}

// TestP6_2Both holds that a path lies below each of its parents, and below no other text.
func TestP6_2Both(t *testing.T) {
	c := chain(29)
	for range 2000 {
		s := c.path(1 + c.below(254))
		if !May(s) {
			continue
		}
		parents := Parents(s)
		for i := range len(s) + 1 {
			if dir := s[:i]; Under(s, dir) != slices.Contains(parents, dir) {
				t.Fatalf("Under(%q, %q) = %v", s, dir, Under(s, dir))
			}
		}
	}
}

func TestP6_3Copy(t *testing.T) {
	for _, c := range []struct {
		s    string
		d    api.Dot
		want string
	}{
		{"a", api.Dot{Replica: 3, Seq: 17}, "a~3-17"},
		{"a", api.Dot{Replica: 0, Seq: 1}, "a~0-1"},
		{"a/b.c", api.Dot{Replica: 31, Seq: 1 << 40}, "a/b.c~31-1099511627776"},
		{"a", api.Dot{Replica: 10, Seq: 10}, "a~10-10"},
		{"a", api.Dot{}, "a~0-0"},
		{"", api.Dot{Replica: 1, Seq: 2}, "~1-2"},
		{"a~3-17", api.Dot{Replica: 4, Seq: 5}, "a~3-17~4-5"},
		{"a/", api.Dot{Replica: 1, Seq: 2}, "a/~1-2"},
		{" \xff\x00", api.Dot{Replica: 1, Seq: 2}, " \xff\x00~1-2"},
		{"a", api.Dot{Replica: -1, Seq: -2}, "a~-1--2"},
		{"a", api.Dot{Replica: 32, Seq: 1<<40 + 1}, "a~32-1099511627777"},
		{"a", api.Dot{Replica: math.MaxInt, Seq: math.MaxInt64}, "a~9223372036854775807-9223372036854775807"},
		{"a", api.Dot{Replica: math.MinInt, Seq: math.MinInt64}, "a~-9223372036854775808--9223372036854775808"},
	} {
		if got := Copy(c.s, c.d); got != c.want {
			t.Errorf("Copy(%q, %v) = %q, not %q", c.s, c.d, got, c.want)
		}
	}
	if got := Copy(as(1<<20), api.Dot{Replica: 1, Seq: 2}); got != as(1<<20)+"~1-2" {
		t.Errorf("the copy of a great text has %d bytes", len(got))
	}
}

// TestP6_4Joined has texts of a fixed rule: those that are paths are joined of their Split.
func TestP6_4Joined(t *testing.T) {
	c := chain(31)
	count := 0
	for range 50000 {
		s := c.path(1 + c.below(270))
		if asPlain(t, s) {
			count++
			if p, n, _ := Split(s); len(p) > 155 || len(n) > 100 || n == "" {
				t.Fatalf("Split(%q) = %q, %q", s, p, n)
			}
		}
	}
	if count < 5000 {
		t.Fatalf("only %d paths", count)
	}
}

// dots is dots that may be, among them those of the least numbers and of the greatest.
func dots() []api.Dot {
	var l []api.Dot
	for _, replica := range []int{0, 1, 2, 3, 9, 10, 11, 12, 29, 30, 31} {
		for _, seq := range []int64{1, 2, 3, 9, 10, 11, 12, 21, 99, 100, 101, 110, 111, 1000, 1 << 20, 1<<40 - 1, 1 << 40} {
			l = append(l, api.Dot{Replica: replica, Seq: seq})
		}
	}
	return l
}

// TestP6_4Copies has users' paths of all kinds, and their copies by many dots: paths all, no user's, and each but once.
func TestP6_4Copies(t *testing.T) {
	c := chain(37)
	kinds := strings.ReplaceAll(letters, "~", "")
	own := map[string]bool{"a": true, "a-1": true, "a-1-1": true, "a1": true, "1": true, "1-1": true, "0-1": true, "-": true, "a/0-1": true, as(83): true, as(82): true, as(100) + "/" + as(83): true, strings.Repeat("a/", 99) + "bb": true}
	for range 2000 {
		b := []byte(c.text(1+c.below(200), kinds))
		for i := c.below(60); i < len(b); i += 2 + c.below(90) {
			b[i] = '/'
		}
		if Own(string(b)) {
			own[string(b)] = true
		}
	}
	if len(own) < 300 {
		t.Fatalf("only %d users' paths", len(own))
	}
	type made struct {
		s string
		d api.Dot
	}
	copies := map[string]made{}
	for s := range own {
		if !Own(s) || !May(s) {
			t.Fatalf("not Own(%q)", s)
		}
		for _, d := range dots() {
			name := Copy(s, d)
			if !May(name) {
				t.Fatalf("Copy(%q, %v) is no path", s, d)
			}
			if Own(name) || own[name] {
				t.Fatalf("Copy(%q, %v) is a user's path", s, d)
			}
			if first, there := copies[name]; there {
				t.Fatalf("Copy(%q, %v) is Copy(%q, %v)", s, d, first.s, first.d)
			}
			copies[name] = made{s, d}
		}
	}
}

// TestParts holds that the parts are gone through no further than they are asked for.
func TestParts(t *testing.T) {
	var begins []int
	var all []string
	for begin, part := range parts("ab//c/") {
		begins, all = append(begins, begin), append(all, part)
	}
	if !slices.Equal(begins, []int{0, 3, 4, 6}) || !slices.Equal(all, []string{"ab", "", "c", ""}) {
		t.Fatalf("parts at %v: %q", begins, all)
	}
	for stop := range 4 {
		n := 0
		for range parts("ab//c/") {
			if n == stop {
				break
			}
			n++
		}
		if n != stop {
			t.Fatalf("%d parts, not %d", n, stop)
		}
	}
}

// TestR3 holds that what is told is the caller's own.
func TestR3(t *testing.T) {
	first := Parents("a/b/c")
	first[0], first[1] = "#", "#"
	_ = append(first[:1], "#")
	if again := Parents("a/b/c"); !slices.Equal(again, []string{"a", "a/b"}) {
		t.Fatalf("told again: %q", again)
	}
}
