package diff

import (
	"bytes"
	"fmt"
	"math"
	"slices"
	"sort"
	"strings"
	"testing"

	"bindle/api"
	"bindle/heads"
	"bindle/path"
	"bindle/sha"
	"bindle/vec"
	"bindle/view"
)

// chain tells numbers of a fixed rule, one after the other.
type chain uint64

func (c *chain) word() uint64 {
	*c = *c*6364136223846793005 + 1442695040888963407
	return uint64(*c) ^ uint64(*c)>>33
}

// below is one of the fixed rule, from 0 to n-1.
func (c *chain) below(n int) int {
	return int(c.word() >> 9 % uint64(n))
}

// of is one of l.
func of[T any](c *chain, l []T) T {
	return l[c.below(len(l))]
}

// tells holds that got is want.
func tells[T comparable](t *testing.T, got, want T, what string, args ...any) {
	t.Helper()
	if got != want {
		t.Fatalf("%.9999s = %.9999v, not %.9999v", fmt.Sprintf(what, args...), fmt.Sprint(got), fmt.Sprint(want))
	}
}

// told is all of files, so that two are told alike if, and only if, all their fields are the same.
func told(files []api.File) string {
	var l []string
	for _, f := range files {
		l = append(l, fmt.Sprintf("%q %q", f.Path, f.Data))
	}
	return strings.Join(l, ", ")
}

// toldEdits is all of l, in the same way.
func toldEdits(l []Edit) string {
	var all []string
	for _, e := range l {
		all = append(all, fmt.Sprintf("%d %q %q", e.Kind, e.Path, e.Data))
	}
	return strings.Join(all, ", ")
}

// file is a file of that content.
func file(path, data string) api.File {
	return api.File{Path: path, Data: []byte(data)}
}

// shown is what is shown at a path of that content.
func shown(path, data string) view.Shown {
	return view.Shown{Path: path, Sum: sha.Sum([]byte(data)), Size: len(data)}
}

// edit is what a user did at a path.
func edit(kind int, path, data string) Edit {
	return Edit{Kind: kind, Path: path, Data: []byte(data)}
}

// at is files at these paths, each of its path as content.
func at(paths ...string) []api.File {
	var files []api.File
	for _, p := range paths {
		files = append(files, file(p, p))
	}
	return files
}

// shownAt is what is shown at these paths, each of its path as content.
func shownAt(paths ...string) []view.Shown {
	var l []view.Shown
	for _, p := range paths {
		l = append(l, shown(p, p))
	}
	return l
}

// plainMay tells whether files are a tree, by the chapter's words.
func plainMay(files []api.File) bool {
	for i, f := range files {
		if len(f.Data) > 65536 {
			return false
		}
		for j, g := range files {
			isUnder := strings.HasPrefix(f.Path, g.Path+"/") && len(f.Path) > len(g.Path)+1
			if isUnder || i < j && f.Path >= g.Path {
				return false
			}
		}
	}
	return len(files) <= 200
}

// plainFind is the first file's content, by the chapter's words.
func plainFind(files []api.File, path string) ([]byte, bool) {
	for _, f := range files {
		if f.Path == path {
			return f.Data, true
		}
	}
	return nil, false
}

// plainApply is a tree behind an edit, by the chapter's words.
func plainApply(files []api.File, e Edit) []api.File {
	var rest, all []api.File
	for _, f := range files {
		if f.Path != e.Path {
			rest = append(rest, f)
		}
	}
	laid := e.Kind != 1
	for _, f := range rest {
		if !laid && f.Path > e.Path {
			all, laid = append(all, api.File{Path: e.Path, Data: e.Data}), true
		}
		all = append(all, f)
	}
	if !laid {
		all = append(all, api.File{Path: e.Path, Data: e.Data})
	}
	return all
}

// plainScan is what a user did, by the chapter's words.
func plainScan(l []view.Shown, files []api.File) ([]Edit, api.Errno) {
	if !plainMay(files) {
		return nil, 9
	}
	var edits []Edit
	for _, f := range files {
		main, found := view.Main(l, f.Path)
		if path.Own(f.Path) && !(found && view.Fits(main, f.Data)) {
			edits = append(edits, Edit{1, f.Path, f.Data})
		}
	}
	for _, s := range l {
		_, found := plainFind(files, s.Path)
		if path.Own(s.Path) && !found {
			edits = append(edits, Edit{2, s.Path, nil})
		}
	}
	sort.SliceStable(edits, func(i, j int) bool { return edits[i].Path < edits[j].Path })
	return edits, 0
}

// scans holds that Scan tells these edits.
func scans(t *testing.T, l []view.Shown, files []api.File, want ...Edit) {
	t.Helper()
	edits, e := Scan(l, files)
	tells(t, e, api.OK, "the error of Scan(%v, %s)", l, told(files))
	tells(t, toldEdits(edits), toldEdits(want), "Scan(%v, %s)", l, told(files))
}

// refuses holds that files are no tree, and that Scan says so and no more.
func refuses(t *testing.T, l []view.Shown, files []api.File) {
	t.Helper()
	tells(t, May(files), false, "May(%s)", told(files))
	edits, e := Scan(l, files)
	tells(t, e, api.ErrPath, "the error of Scan(%v, %s)", l, told(files))
	tells(t, len(edits), 0, "the count of edits beside an error")
}

func TestP15_1May(t *testing.T) {
	for _, c := range []struct {
		paths []string
		want  bool
	}{
		{nil, true},
		{[]string{"a"}, true},
		{[]string{"a", "b", "c"}, true},
		// They rise byte by byte, each once.
		{[]string{"a", "a"}, false},
		{[]string{"b", "a"}, false},
		{[]string{"a", "c", "b"}, false},
		{[]string{"b", "a", "c"}, false},
		{[]string{"a", "b", "b"}, false},
		{[]string{"a", "b", "a"}, false},
		{[]string{"B", "a"}, true},
		{[]string{"a", "B"}, false},
		{[]string{"a10", "a9"}, true},
		{[]string{"a9", "a10"}, false},
		{[]string{"a", "aa"}, true},
		{[]string{"aa", "a"}, false},
		{[]string{"z", "\x80"}, true},
		{[]string{"a-b", "a.b", "a/b", "a0b", "a_b", "a~b"}, true},
		{[]string{"a/b", "a-b"}, false},
		// None lies under another one, be they neighbours or not.
		{[]string{"a", "a/b"}, false},
		{[]string{"a", "a/b/c"}, false},
		{[]string{"a/b", "a/b/c"}, false},
		{[]string{"a/b", "a/c/d", "a/c/d/e"}, false},
		{[]string{"a", "a-b", "a/b"}, false},
		{[]string{"a", "a-b", "a.b", "a/b/c", "a0"}, false},
		{[]string{"a", "a-b", "a-b/c"}, false},
		{[]string{"a", "a-b", "a.b", "a0", "ab"}, true},
		{[]string{"a-b", "a.b", "a/b", "a0"}, true},
		{[]string{"a/b", "a/b-c", "a/b/c"}, false},
		{[]string{"a/b", "a/b-c", "a/bb", "a/c"}, true},
		{[]string{"a", "b/a", "c/a/a", "d"}, true},
		{[]string{"A/b", "a"}, true},
		// Whatever else the paths are: nothing more is asked of them.
		{[]string{""}, true},
		{[]string{"", "a"}, true},
		{[]string{"", "/"}, true},
		{[]string{"", "/a"}, false},
		{[]string{"", "//"}, false},
		{[]string{"", "\x00", "a", "b/c"}, true},
		{[]string{"/", "/a"}, true},
		{[]string{"/", "//"}, true},
		{[]string{"/", "//a"}, false},
		{[]string{"..", "a//b", "á"}, true},
		{[]string{"a", "a/"}, true},
		{[]string{"a", "a//"}, false},
		{[]string{"a", "a/", "a/\x00"}, false},
		{[]string{"a", "a/", "a/\x00\x00"}, false},
		{[]string{"a", "a/\xff"}, false},
		{[]string{"a/", "a//b"}, false},
		{[]string{"a", "a~0-1", "a~0-1~0-1"}, true},
		{[]string{strings.Repeat("x", 300)}, true},
	} {
		tells(t, May(at(c.paths...)), c.want, "May of files at %q", c.paths)
		tells(t, plainMay(at(c.paths...)), c.want, "the plain telling, at %q", c.paths)
		if !c.want {
			refuses(t, nil, at(c.paths...))
			refuses(t, shownAt(c.paths...), at(c.paths...))
		}
	}
}

// TestP15_1MayMost has trees of as many files as may be, and one more, wherever it stands.
func TestP15_1MayMost(t *testing.T) {
	var files []api.File
	for i := range 201 {
		files = append(files, api.File{Path: fmt.Sprintf("%03d", i)})
	}
	for i := range 201 {
		tells(t, May(files[:i]), true, "May of %d files", i)
		tells(t, May(files[201-i:]), true, "May of %d files", i)
	}
	refuses(t, nil, files)
	edits, e := Scan(nil, files[1:])
	tells(t, e, api.OK, "the error of Scan of 200 files")
	tells(t, len(edits), 200, "the count of edits of 200 files")
	for i := range files {
		files[i].Path += "~0-1"
	}
	refuses(t, nil, files)
	for i := range 200 {
		under := slices.Insert(slices.Clone(files[1:200]), i, api.File{Path: files[0].Path})
		slices.SortFunc(under, func(f, g api.File) int { return strings.Compare(f.Path, g.Path) })
		tells(t, May(under), true, "May of 200 files")
		under[i].Path = under[(i+7)%200].Path + "/x"
		slices.SortFunc(under, func(f, g api.File) int { return strings.Compare(f.Path, g.Path) })
		refuses(t, nil, under)
	}
}

// TestP15_1MaySizes has files of as many bytes as may be, and of more, wherever they stand.
func TestP15_1MaySizes(t *testing.T) {
	most := bytes.Repeat([]byte("y"), 65536)
	for i := range 3 {
		for _, size := range []int{0, 1, 65535, 65536} {
			files := at("a", "b", "c~0-1")
			files[i].Data = most[:size]
			tells(t, May(files), true, "May, with %d bytes at %d", size, i)
		}
		for _, size := range []int{65537, 65538, 1 << 17, 1<<20 + 1} {
			files := at("a", "b", "c~0-1")
			files[i].Data = make([]byte, size)
			refuses(t, shownAt("a", "b", "c~0-1"), files)
		}
	}
	all := at("a", "b", "c", "d")
	for i := range all {
		all[i].Data = most
	}
	tells(t, May(all), true, "May of all as long as may be")
	edits, e := Scan([]view.Shown{shown("b", string(most)), shown("c", string(most[1:]))}, all)
	tells(t, e, api.OK, "the error of Scan of all as long as may be")
	tells(t, len(edits), 3, "the count of edits")
	tells(t, string(edits[2].Data) == string(most), true, "whether a long file's edit has its bytes")
}

func TestP15_1Find(t *testing.T) {
	tree := []api.File{file("a", "x"), file("b", ""), file("c/d", "yy")}
	loose := []api.File{file("b", "1"), file("a", "2"), file("b", "3"), file("", "4"), file("a", "")}
	for _, c := range []struct {
		files []api.File
		path  string
		data  string
		found bool
	}{
		{tree, "a", "x", true},
		{tree, "b", "", true},
		{tree, "c/d", "yy", true},
		{tree, "c", "", false},
		{tree, "d", "", false},
		{tree, "A", "", false},
		{tree, "", "", false},
		{tree, "a/", "", false},
		{tree, "c/d/e", "", false},
		{tree, "c/d\x00", "", false},
		{loose, "a", "2", true},
		{loose, "b", "1", true},
		{loose, "", "4", true},
		{loose[1:], "b", "3", true},
		{loose[2:], "a", "", true},
		{loose[:1], "a", "", false},
		{nil, "a", "", false},
		{nil, "", "", false},
		{[]api.File{{}}, "", "", true},
	} {
		data, found := Find(c.files, c.path)
		tells(t, string(data), c.data, "Find(%s, %q)", told(c.files), c.path)
		tells(t, found, c.found, "whether Find(%s, %q) found one", told(c.files), c.path)
	}
}

func TestP15_1Apply(t *testing.T) {
	tree := []api.File{file("b", "1"), file("d", "2"), file("f", "3")}
	loose := []api.File{file("d", "1"), file("b", "2"), file("d", "3"), file("f", "4"), file("a", "5"), file("f", "6")}
	for _, c := range []struct {
		files []api.File
		e     Edit
		want  string
	}{
		{tree, edit(api.Put, "a", "x"), `"a" "x", "b" "1", "d" "2", "f" "3"`},
		{tree, edit(api.Put, "b", "x"), `"b" "x", "d" "2", "f" "3"`},
		{tree, edit(api.Put, "c", "x"), `"b" "1", "c" "x", "d" "2", "f" "3"`},
		{tree, edit(api.Put, "d", "x"), `"b" "1", "d" "x", "f" "3"`},
		{tree, edit(api.Put, "e", ""), `"b" "1", "d" "2", "e" "", "f" "3"`},
		{tree, edit(api.Put, "f", "x"), `"b" "1", "d" "2", "f" "x"`},
		{tree, edit(api.Put, "g", "x"), `"b" "1", "d" "2", "f" "3", "g" "x"`},
		{tree, edit(api.Put, "B", "x"), `"B" "x", "b" "1", "d" "2", "f" "3"`},
		{tree, edit(api.Put, "d/e", "x"), `"b" "1", "d" "2", "d/e" "x", "f" "3"`},
		{tree, edit(api.Put, "", "x"), `"" "x", "b" "1", "d" "2", "f" "3"`},
		{tree, edit(api.Put, "\xff", "x"), "\"b\" \"1\", \"d\" \"2\", \"f\" \"3\", \"\\xff\" \"x\""},
		{tree, edit(api.Delete, "b", ""), `"d" "2", "f" "3"`},
		{tree, edit(api.Delete, "d", "x"), `"b" "1", "f" "3"`},
		{tree, edit(api.Delete, "f", ""), `"b" "1", "d" "2"`},
		{tree, edit(api.Delete, "e", "x"), `"b" "1", "d" "2", "f" "3"`},
		{tree, edit(api.Delete, "d/e", ""), `"b" "1", "d" "2", "f" "3"`},
		{tree, edit(api.Delete, "", ""), `"b" "1", "d" "2", "f" "3"`},
		{nil, edit(api.Put, "a", "x"), `"a" "x"`},
		{nil, edit(api.Put, "", ""), `"" ""`},
		{nil, edit(api.Delete, "a", "x"), ``},
		{tree[:1], edit(api.Delete, "b", ""), ``},
		{tree[:1], edit(api.Put, "b", ""), `"b" ""`},
		// All files at the path go, and a Put stands ahead of the first one that is above it, whatever their order.
		{loose, edit(api.Delete, "d", ""), `"b" "2", "f" "4", "a" "5", "f" "6"`},
		{loose, edit(api.Put, "d", "x"), `"b" "2", "d" "x", "f" "4", "a" "5", "f" "6"`},
		{loose, edit(api.Put, "f", "x"), `"d" "1", "b" "2", "d" "3", "a" "5", "f" "x"`},
		{loose, edit(api.Put, "c", "x"), `"c" "x", "d" "1", "b" "2", "d" "3", "f" "4", "a" "5", "f" "6"`},
		{loose, edit(api.Put, "e", "x"), `"d" "1", "b" "2", "d" "3", "e" "x", "f" "4", "a" "5", "f" "6"`},
		{loose, edit(api.Put, "b", "x"), `"b" "x", "d" "1", "d" "3", "f" "4", "a" "5", "f" "6"`},
		{at("a", "a", "a"), edit(api.Delete, "a", ""), ``},
		{at("a", "a", "a"), edit(api.Put, "a", "x"), `"a" "x"`},
	} {
		tells(t, told(Apply(c.files, c.e)), c.want, "Apply(%s, %s)", told(c.files), toldEdits([]Edit{c.e}))
		tells(t, told(plainApply(c.files, c.e)), c.want, "the plain telling of (%s, %s)", told(c.files), toldEdits([]Edit{c.e}))
	}
}

// TestP15_1ApplyKinds has kinds that are none: they take away, and put nothing.
func TestP15_1ApplyKinds(t *testing.T) {
	for _, kind := range []int{0, api.Delete, 3, -1, 256 + 1, 1<<32 + 1, math.MinInt, math.MaxInt} {
		tells(t, told(Apply(at("a", "b", "c"), edit(kind, "b", "x"))), told(at("a", "c")), "Apply of the kind %d", kind)
		tells(t, told(Apply(at("a", "c"), edit(kind, "b", "x"))), told(at("a", "c")), "Apply of the kind %d, of no file", kind)
	}
}

func TestP15_2Examples(t *testing.T) {
	scans(t, shownAt("a"), at("b"), edit(api.Delete, "a", ""), edit(api.Put, "b", "b"))
	scans(t, nil, nil)
	scans(t, nil, at("a"), edit(api.Put, "a", "a"))
	scans(t, shownAt("a"), nil, edit(api.Delete, "a", ""))
	scans(t, shownAt("a"), at("a"))
	scans(t, shownAt("a"), []api.File{file("a", "x")}, edit(api.Put, "a", "x"))
}

// TestP15_2Merged has files and what is shown before, between and behind each other.
func TestP15_2Merged(t *testing.T) {
	scans(t, shownAt("a", "c", "e"), at("a", "c", "e"))
	scans(t, shownAt("a", "c", "e"), at("b", "d", "f"), edit(2, "a", ""), edit(1, "b", "b"), edit(2, "c", ""), edit(1, "d", "d"), edit(2, "e", ""), edit(1, "f", "f"))
	scans(t, shownAt("b", "d", "f"), at("a", "c", "e"), edit(1, "a", "a"), edit(2, "b", ""), edit(1, "c", "c"), edit(2, "d", ""), edit(1, "e", "e"), edit(2, "f", ""))
	scans(t, shownAt("a", "b"), at("c", "d"), edit(2, "a", ""), edit(2, "b", ""), edit(1, "c", "c"), edit(1, "d", "d"))
	scans(t, shownAt("c", "d"), at("a", "b"), edit(1, "a", "a"), edit(1, "b", "b"), edit(2, "c", ""), edit(2, "d", ""))
	scans(t, shownAt("b"), at("a", "b", "c"), edit(1, "a", "a"), edit(1, "c", "c"))
	scans(t, shownAt("a", "b", "c"), at("b"), edit(2, "a", ""), edit(2, "c", ""))
	scans(t, shownAt("a", "b", "c"), []api.File{file("a", "x"), file("b", "b"), file("c", "")}, edit(1, "a", "x"), edit(1, "c", ""))
	// Rising is byte by byte.
	scans(t, shownAt("a", "a-b", "a0"), at("B", "a/b", "a10", "a9"), edit(1, "B", "B"), edit(2, "a", ""), edit(2, "a-b", ""), edit(1, "a/b", "a/b"), edit(2, "a0", ""), edit(1, "a10", "a10"), edit(1, "a9", "a9"))
	// A file where a directory was, and the other way round.
	scans(t, shownAt("a/b", "a/c"), at("a"), edit(1, "a", "a"), edit(2, "a/b", ""), edit(2, "a/c", ""))
	scans(t, shownAt("a"), at("a/b"), edit(2, "a", ""), edit(1, "a/b", "a/b"))
	scans(t, shownAt("a", "a/b"), at("a/b"), edit(2, "a", ""))
}

// TestP15_2Contents has contents that fit, and that don't: the size and the digest are both asked, the dot isn't.
func TestP15_2Contents(t *testing.T) {
	files := []api.File{file("a", "xyz")}
	fits := shown("a", "xyz")
	scans(t, []view.Shown{fits}, files)
	dotted := fits
	dotted.Dot = api.Dot{Replica: -1, Seq: 99}
	scans(t, []view.Shown{dotted}, files)
	for _, size := range []int{0, 2, 4, -3, 3 + 1<<32, math.MinInt, math.MaxInt} {
		other := fits
		other.Size = size
		scans(t, []view.Shown{other}, files, edit(1, "a", "xyz"))
	}
	for bit := range 256 {
		other := fits
		other.Sum[bit/8] ^= 1 << (bit % 8)
		scans(t, []view.Shown{other}, files, edit(1, "a", "xyz"))
	}
	scans(t, []view.Shown{shown("a", "xyy")}, files, edit(1, "a", "xyz"))
	scans(t, []view.Shown{shown("a", "")}, []api.File{{Path: "a"}})
	scans(t, []view.Shown{{Path: "a"}}, []api.File{{Path: "a"}}, edit(1, "a", ""))
	scans(t, []view.Shown{{}}, []api.File{{Path: "a"}}, edit(1, "a", ""))
}

// TestP15_2NotUsers has paths that aren't users': of files at them, and of what is shown there, nothing is told.
func TestP15_2NotUsers(t *testing.T) {
	flat, deep := strings.Repeat("x", 83), strings.Repeat("d/", 58)+strings.Repeat("x", 83)
	notUsers := []string{"", "/", "/a", "a/", "a//b", ".", "..", "a/../b", "a b", "a\x00", "á", "a\xff", "a~", "~", "a~0-1", "a~0-1/b", "b/a~31-9", flat + "x", deep + "x", "d/" + deep, strings.Repeat("x", 1000)}
	for _, p := range notUsers {
		tells(t, path.Own(p), false, "path.Own(%q)", p)
		scans(t, nil, at(p))
		scans(t, shownAt(p), nil)
		scans(t, shownAt(p), at(p))
		scans(t, []view.Shown{shown(p, "x")}, at(p))
		scans(t, shownAt(p, "Q"), []api.File{file("P", "P")}, edit(1, "P", "P"), edit(2, "Q", ""))
	}
	scans(t, shownAt(notUsers...), at("a", "c"), edit(1, "a", "a"), edit(1, "c", "c"))
	for _, p := range []string{flat, deep, "a", ".a", "a..", "...", "a/b", "-", "_+", "0/1/2"} {
		tells(t, path.Own(p), true, "path.Own(%q)", p)
		scans(t, nil, at(p), edit(1, p, p))
		scans(t, shownAt(p), nil, edit(2, p, ""))
		scans(t, shownAt(p), at(p))
		scans(t, []view.Shown{shown(p, "x")}, at(p), edit(1, p, p))
	}
	// Beside users' files they hinder nothing.
	scans(t, shownAt("a", "a~0-1", "b~1-1", "c"), at("a", "a~0-2", "b", "b~1-1"), edit(1, "b", "b"), edit(2, "c", ""))
	scans(t, shownAt("a~0-1", "b"), []api.File{file("a~0-1", "x"), file("b", "x")}, edit(1, "b", "x"))
	scans(t, shownAt("a", "a~0-1"), at("a"))
	scans(t, shownAt("a", "a~0-1"), at("a~0-1"), edit(2, "a", ""))
	// They are of the tree all the same.
	refuses(t, nil, at("a", "a/b~0-1"))
	refuses(t, nil, at("a~0-1", "a~0-1/b"))
	refuses(t, nil, at("a~1-1", "a~0-1"))
	refuses(t, nil, at("/", "/"))
}

// TestP15_2Loose has what is shown in any order, and more than once at a path: the first one is the path's, and each that has no file is a Delete.
func TestP15_2Loose(t *testing.T) {
	scans(t, shownAt("c", "a", "b"), at("a", "b", "c"))
	scans(t, shownAt("c", "a", "b"), nil, edit(2, "a", ""), edit(2, "b", ""), edit(2, "c", ""))
	scans(t, shownAt("c", "a", "b"), at("b"), edit(2, "a", ""), edit(2, "c", ""))
	scans(t, shownAt("d", "c", "b", "a"), at("A", "b", "bb", "d", "e"), edit(1, "A", "A"), edit(2, "a", ""), edit(1, "bb", "bb"), edit(2, "c", ""), edit(1, "e", "e"))
	scans(t, shownAt("a", "a"), nil, edit(2, "a", ""), edit(2, "a", ""))
	scans(t, shownAt("a", "b", "a"), at("b"), edit(2, "a", ""), edit(2, "a", ""))
	scans(t, shownAt("b", "a", "b", "b"), at("a"), edit(2, "b", ""), edit(2, "b", ""), edit(2, "b", ""))
	scans(t, shownAt("a", "a"), at("a"))
	scans(t, shownAt("a", "a", "b"), at("a"), edit(2, "b", ""))
	scans(t, shownAt("a", "a", "b"), at("a", "b"))
	x, y := shown("a", "x"), shown("a", "y")
	scans(t, []view.Shown{x, y}, []api.File{file("a", "x")})
	scans(t, []view.Shown{y, x}, []api.File{file("a", "x")}, edit(1, "a", "x"))
	scans(t, []view.Shown{shown("b", "b"), x, shown("0", "0"), y}, []api.File{file("a", "x")}, edit(2, "0", ""), edit(2, "b", ""))
	scans(t, []view.Shown{shown("b", "b"), y, shown("0", "0"), x}, []api.File{file("a", "x"), file("b", "b")}, edit(2, "0", ""), edit(1, "a", "x"))
	// Among many, too, the first one counts.
	var many []view.Shown
	for i := range 300 {
		many = append(many, shown(names[i*7%len(names)], fmt.Sprint(i)))
	}
	for _, p := range names {
		s, found := view.Main(many, p)
		tells(t, found, true, "whether %q is among many", p)
		data := fmt.Sprint(slices.Index(many, s))
		edits, _ := Scan(many, []api.File{file(p, data)})
		tells(t, slices.ContainsFunc(edits, func(e Edit) bool { return e.Kind == api.Put }), false, "whether the first of many at %q was put", p)
	}
}

var names = []string{"a", "a-b", "a.b", "a/b", "a/b/c", "a0", "b", "b/a", "a/bb"}

// wild is names, and paths that aren't users'.
var wild = append(slices.Clone(names), "", "/", "//", "a/", "a//", "/a", "a~0-1", "a/b~1-1", "a~0-1/b", "\xff", "a/\x00", "c~", strings.Repeat("x", 84))

// someFiles is up to most files at wild paths: in any order, rising, or a tree.
func someFiles(c *chain, most int) []api.File {
	var files []api.File
	for range c.below(most + 1) {
		files = append(files, file(of(c, wild), of(c, []string{"", "x", "y", "xy"})))
	}
	how := c.below(8)
	if how > 0 {
		slices.SortStableFunc(files, func(f, g api.File) int { return strings.Compare(f.Path, g.Path) })
	}
	if how > 1 {
		var tree []api.File
		for _, f := range files {
			if plainMay(append(slices.Clone(tree), f)) {
				tree = append(tree, f)
			}
		}
		return tree
	}
	return files
}

// someShown is up to most at wild paths: in any order, or rising.
func someShown(c *chain, most int) []view.Shown {
	var l []view.Shown
	for range c.below(most + 1) {
		s := shown(of(c, wild), of(c, []string{"", "x", "y", "xy"}))
		switch c.below(30) {
		case 0:
			s.Size += c.below(3) - 1
		case 1:
			s.Sum[c.below(32)] ^= 16
		}
		l = append(l, s)
	}
	if c.below(2) == 0 {
		slices.SortStableFunc(l, func(s, u view.Shown) int { return strings.Compare(s.Path, u.Path) })
	}
	return l
}

// holds holds that all calls tell what the chapter's words have.
func holds(t *testing.T, l []view.Shown, files []api.File, e Edit) api.Errno {
	t.Helper()
	tells(t, May(files), plainMay(files), "May(%s)", told(files))
	data, found := Find(files, e.Path)
	wantData, wantFound := plainFind(files, e.Path)
	tells(t, string(data), string(wantData), "Find(%s, %q)", told(files), e.Path)
	tells(t, found, wantFound, "whether Find(%s, %q) found one", told(files), e.Path)
	tells(t, told(Apply(files, e)), told(plainApply(files, e)), "Apply(%s, %s)", told(files), toldEdits([]Edit{e}))
	edits, err := Scan(l, files)
	want, wantErr := plainScan(l, files)
	tells(t, err, wantErr, "the error of Scan(%v, %s)", l, told(files))
	tells(t, toldEdits(edits), toldEdits(want), "Scan(%v, %s)", l, told(files))
	return err
}

func TestP15_2(t *testing.T) {
	c := chain(149)
	errors := map[api.Errno]int{}
	for i := range 40000 {
		l, files := someShown(&c, 12+i%50), someFiles(&c, 12)
		e := edit(c.below(4), of(&c, wild), of(&c, []string{"", "x", "z"}))
		errors[holds(t, l, files, e)]++
	}
	if errors[api.OK] < 10000 || errors[api.ErrPath] < 1000 {
		t.Errorf("too few of a kind: %v", errors)
	}
}

// TestP15_2AllSmall has all of up to three shown beside all of up to three files, of a few paths.
func TestP15_2AllSmall(t *testing.T) {
	pool := []string{"a", "a-b", "a/b", "b", "b~0-1"}
	lists := [][]string{nil}
	for level := 0; level < len(lists); level++ {
		for _, p := range pool {
			if len(lists[level]) < 3 {
				lists = append(lists, append(slices.Clone(lists[level]), p))
			}
		}
	}
	for _, l := range lists {
		for _, files := range lists {
			holds(t, shownAt(l...), at(files...), edit(len(l), "b", "x"))
		}
	}
}

// history is the puts, and deletes, of so many replicas, and the puts' contents: each makes some of what it knows, and they tell each other all they know.
func history(c *chain, replicas, steps int, names ...string) ([]api.Event, [][]byte) {
	known := make([]api.Vec, replicas)
	var all []api.Event
	var blobs [][]byte
	for range steps {
		r, other := c.below(replicas), c.below(replicas)
		if c.below(3) == 0 {
			known[r] = vec.Join(known[r], known[other])
			continue
		}
		data := fmt.Appendf(nil, "%d", c.below(20))
		e := api.Event{Dot: api.Dot{Replica: r, Seq: vec.Get(known[r], r) + 1}, Deps: known[r], Kind: api.Put, Path: of(c, names), Sum: sha.Sum(data), Size: len(data)}
		if c.below(4) == 0 {
			e.Kind, e.Sum, e.Size = api.Delete, api.Digest{}, 0
		}
		known[r] = vec.With(known[r], e.Dot)
		all, blobs = append(all, e), append(blobs, data)
	}
	return all, blobs
}

// users is the files at users' paths.
func users(files []api.File) []api.File {
	return slices.DeleteFunc(slices.Clone(files), func(f api.File) bool { return !path.Own(f.Path) })
}

// others is the files at other paths.
func others(files []api.File) []api.File {
	return slices.DeleteFunc(slices.Clone(files), func(f api.File) bool { return path.Own(f.Path) })
}

// edited is a tree that comes of files by some edits at names and at paths that the files have, copies' among them.
func edited(c *chain, files []api.File, names ...string) []api.File {
	for range c.below(12) {
		p := of(c, names)
		if len(files) > 0 && c.below(2) == 0 {
			p = of(c, files).Path
		}
		behind := plainApply(files, edit(1+c.below(2), p, fmt.Sprint(c.below(20))))
		if plainMay(behind) {
			files = behind
		}
	}
	return files
}

// TestP15_3 has what histories show: unedited it tells no edits, and the edits of a tree lead to its users' files.
func TestP15_3(t *testing.T) {
	c := chain(151)
	edits := 0
	for range 600 {
		all, blobs := history(&c, 1+c.below(6), 30, names[:1+c.below(len(names))]...)
		l := view.View(heads.Join(nil, all))
		made, e := view.Tree(l, blobs)
		tells(t, e, api.OK, "the error of view.Tree")
		tells(t, May(made), true, "May(%s)", told(made))
		scans(t, l, made)
		for range 5 {
			files := edited(&c, made, names...)
			found, e := Scan(l, files)
			tells(t, e, api.OK, "the error of Scan(%v, %s)", l, told(files))
			edits += len(found)
			got := made
			for _, x := range found {
				tells(t, path.Own(x.Path), true, "path.Own(%q)", x.Path)
				got = Apply(got, x)
			}
			tells(t, told(users(got)), told(users(files)), "the users' files behind the edits of %s, from %s", told(files), told(made))
			tells(t, told(others(got)), told(others(made)), "the other files behind the edits of %s, from %s", told(files), told(made))
			tells(t, slices.IsSortedFunc(got, func(f, g api.File) int { return strings.Compare(f.Path, g.Path) }), true, "whether %s rises", told(got))
		}
	}
	if edits < 5000 {
		t.Errorf("too few edits: %d", edits)
	}
}

// TestR2NilAndEmpty holds that nothing is nothing, whichever way.
func TestR2NilAndEmpty(t *testing.T) {
	for _, files := range [][]api.File{nil, {}, make([]api.File, 0, 9), at("a")[:0]} {
		tells(t, May(files), true, "May of none")
		_, found := Find(files, "")
		tells(t, found, false, "whether Find of none found one")
		tells(t, len(Apply(files, Edit{})), 0, "the count of Apply of none")
		tells(t, told(Apply(files, edit(1, "a", "x"))), `"a" "x"`, "Apply of none")
		for _, l := range [][]view.Shown{nil, {}, make([]view.Shown, 0, 9), shownAt("a")[:0]} {
			scans(t, l, files)
			scans(t, l, at("a"), edit(1, "a", "a"))
		}
		scans(t, shownAt("a"), files, edit(2, "a", ""))
	}
	for _, data := range [][]byte{nil, {}, make([]byte, 0, 9), []byte("x")[:0]} {
		files := []api.File{{Path: "a", Data: data}}
		tells(t, May(files), true, "May of an empty file")
		got, found := Find(files, "a")
		tells(t, len(got), 0, "the count of Find of an empty file")
		tells(t, found, true, "whether Find found an empty file")
		scans(t, []view.Shown{shown("a", "")}, files)
		scans(t, nil, files, edit(1, "a", ""))
		tells(t, told(Apply(files, Edit{Kind: 1, Path: "b", Data: data})), `"a" "", "b" ""`, "Apply of empty files")
	}
}

// roomy is files whose list, and whose contents, have room behind them.
func roomy() []api.File {
	files := append(at("a", "c", "d~0-1", "e"), file("behind", "behind"))
	for i, f := range files {
		files[i].Data = append(f.Data, "behind"...)[:len(f.Data)]
	}
	return files[:4]
}

// allOf is all of files, room included.
func allOf(files []api.File) string {
	var all []api.File
	for _, f := range files[:cap(files)] {
		all = append(all, api.File{Path: f.Path, Data: f.Data[:cap(f.Data)]})
	}
	return told(all)
}

// spoil turns all bytes of data, room included.
func spoil(data []byte) {
	for i := range data[:cap(data)] {
		data[:cap(data)][i] ^= 255
	}
}

// TestR3NothingChanged holds that what is handed in stays as it is, room behind included.
func TestR3NothingChanged(t *testing.T) {
	files, l, e := roomy(), append(shownAt("e", "b", "a"), shown("behind", "x")), edit(1, "b", "xbehind")
	e.Data = e.Data[:1]
	wasFiles, wasShown, wasData := allOf(files), fmt.Sprint(l), string(e.Data[:7])
	May(files)
	Find(files, "c")
	Scan(l[:3], files)
	for _, p := range []string{"", "a", "b", "c", "f"} {
		for kind := range 3 {
			Apply(files, Edit{Kind: kind, Path: p, Data: e.Data})
		}
	}
	tells(t, allOf(files), wasFiles, "the files that were handed in")
	tells(t, fmt.Sprint(l), wasShown, "what was shown")
	tells(t, string(e.Data[:7]), wasData, "the data that was handed in")
}

// TestR3NothingShared holds that spoiling what is told changes nothing else, and that spoiling what was handed in changes nothing told.
func TestR3NothingShared(t *testing.T) {
	files, l, e := roomy(), shownAt("b", "e"), edit(1, "b", "x")
	was := allOf(files)
	data, _ := Find(files, "c")
	again, _ := Find(files, "c")
	spoil(data)
	tells(t, string(again), "c", "Find, with another one of its answers spoilt")
	tells(t, allOf(files), was, "the files, with Find's answer spoilt")

	applied, other := Apply(files, e), Apply(files, e)
	wasTold := told(other)
	for i, f := range applied {
		rest := told(applied[i+1:])
		spoil(f.Data)
		tells(t, told(applied[i+1:]), rest, "the files behind one whose bytes are spoilt")
	}
	clear(applied[:cap(applied)])
	tells(t, told(other), wasTold, "Apply, with another one of its answers spoilt")
	tells(t, allOf(files), was, "the files, with Apply's answer spoilt")
	tells(t, string(e.Data), "x", "the edit, with Apply's answer spoilt")

	edits, _ := Scan(l, files)
	kept, _ := Scan(l, files)
	wasEdits := toldEdits(kept)
	tells(t, wasEdits, toldEdits([]Edit{edit(1, "a", "a"), edit(2, "b", ""), edit(1, "c", "c")}), "Scan")
	for i, x := range edits {
		rest := toldEdits(edits[i+1:])
		spoil(x.Data)
		tells(t, toldEdits(edits[i+1:]), rest, "the edits behind one whose bytes are spoilt")
	}
	clear(edits[:cap(edits)])
	tells(t, toldEdits(kept), wasEdits, "Scan, with another one of its answers spoilt")
	tells(t, allOf(files), was, "the files, with Scan's answer spoilt")

	spoil(e.Data)
	for _, f := range files {
		spoil(f.Data)
	}
	clear(files)
	clear(l)
	tells(t, string(again), "c", "Find's answer, with the files spoilt")
	tells(t, told(other), wasTold, "Apply's answer, with the files and the edit spoilt")
	tells(t, toldEdits(kept), wasEdits, "Scan's answer, with the files spoilt")
}

// TestR4SameAgain holds that what is told is the same each time.
func TestR4SameAgain(t *testing.T) {
	c := chain(157)
	l, files := someShown(&c, 90), at("a-b", "a/b", "b")
	edits, _ := Scan(l, files)
	for range 20 {
		scans(t, l, files, edits...)
	}
}

// TestP1Many has many files, much that is shown, and long paths: calls end, and soon.
func TestP1Many(t *testing.T) {
	const n = 1 << 16
	var files []api.File
	var l []view.Shown
	for i := range n {
		p := fmt.Sprintf("%05d", n-i)
		files, l = append(files, file(p, "x")), append(l, shown(p, "y"))
	}
	refuses(t, l, files)
	tree := slices.Clone(files[:200])
	slices.Reverse(tree)
	edits, e := Scan(l, tree)
	tells(t, e, api.OK, "the error of Scan of many")
	tells(t, len(edits), n, "the count of edits of many")
	tells(t, toldEdits(edits[:1]), `2 "00001" ""`, "the first edit of many")
	tells(t, toldEdits(edits[n-1:]), `1 "65536" "x"`, "the last edit of many")
	for i := range l {
		l[i].Path = "65536"
	}
	edits, e = Scan(l, tree)
	tells(t, e, api.OK, "the error of Scan of many at a path")
	tells(t, len(edits), 200, "the count of edits of many at a path")
	edits, e = Scan(l, nil)
	tells(t, e, api.OK, "the error of Scan of many at a path, all gone")
	tells(t, len(edits), n, "the count of edits of many at a path, all gone")
	tells(t, len(Apply(files, edit(1, "x", ""))), n+1, "the count of Apply of many")
	_, found := Find(files, "x")
	tells(t, found, false, "whether Find of many found one")

	long := make([]api.File, 200)
	for i := range long {
		long[i].Path = strings.Repeat("/", 1<<16) + strings.Repeat("a", i+1)
	}
	tells(t, May(long), true, "May of long paths")
	scans(t, nil, long)
	long[199].Path = long[0].Path + "//"
	slices.SortFunc(long, func(f, g api.File) int { return strings.Compare(f.Path, g.Path) })
	refuses(t, nil, long)
}
