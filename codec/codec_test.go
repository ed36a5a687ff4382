package codec

import (
	"archive/tar"
	"bytes"
	"crypto/sha256"
	"fmt"
	"io"
	"math"
	"slices"
	"sort"
	"strconv"
	"strings"
	"testing"

	"bindle/api"
	"bindle/bundle"
	"bindle/event"
	"bindle/heads"
	"bindle/ustar"
	"bindle/vec"
)

// chain tells numbers of a fixed rule, one after the other.
type chain uint64

func (c *chain) word() uint64 {
	*c = *c*6364136223846793005 + 1442695040888963407
	return uint64(*c) ^ uint64(*c)>>33
}

// below is one of the fixed rule, from 0 to n-1.
func (c *chain) below(n int) int {
	return int(c.word() >> 9 % uint64(n))
}

// of is one of l.
func of[T any](c *chain, l []T) T {
	return l[c.below(len(l))]
}

// tells holds that got is want.
func tells[T comparable](t *testing.T, got, want T, what string, args ...any) {
	t.Helper()
	if got != want {
		t.Fatalf("%.9999s = %.9999v, not %.9999v", fmt.Sprintf(what, args...), fmt.Sprint(got), fmt.Sprint(want))
	}
}

// told is all of b, so that two are told alike if, and only if, all their fields are the same.
func told(b api.Bundle) string {
	var events strings.Builder
	for _, e := range b.Events {
		fmt.Fprintf(&events, "  %d %d %d %q %x %d\n", e.Dot, []api.Dot(e.Deps), e.Kind, e.Path, e.Sum, e.Size)
	}
	return fmt.Sprintf("from %d to %d id %d base %d know %d events\n%sacks %d blobs %q", b.From, b.To, b.Id, []api.Dot(b.Base), []api.Dot(b.Know), events.String(), b.Acks, b.Blobs)
}

// toldFiles is all of l.
func toldFiles(l []api.File) string {
	return fmt.Sprintf("%q", l)
}

// plainVec is the text of v's dots, whatever they are.
func plainVec(v api.Vec) string {
	if len(v) == 0 {
		return "-"
	}
	s := ""
	for _, d := range v {
		s += fmt.Sprintf(",%d:%d", d.Replica, d.Seq)
	}
	return s[1:]
}

// plainManifest is the manifest of b, by the chapter's words, whether b may be or not.
func plainManifest(b api.Bundle, n int) string {
	var s strings.Builder
	fmt.Fprintf(&s, "bindle %d\nfrom %d %d %d\nbase %s\nknow %s\nacks ", n, b.From, b.To, b.Id, plainVec(b.Base), plainVec(b.Know))
	for i, row := range b.Acks {
		if i > 0 {
			s.WriteString(";")
		}
		s.WriteString(plainVec(row))
	}
	s.WriteString("\n")
	for _, e := range b.Events {
		if e.Kind == 1 {
			fmt.Fprintf(&s, "put %d:%d %s %s %x %d\n", e.Dot.Replica, e.Dot.Seq, plainVec(e.Deps), e.Path, e.Sum[:], e.Size)
		} else {
			fmt.Fprintf(&s, "del %d:%d %s %s\n", e.Dot.Replica, e.Dot.Seq, plainVec(e.Deps), e.Path)
		}
	}
	return s.String()
}

// plainHas tells whether v, a vector, knows d.
func plainHas(v api.Vec, d api.Dot) bool {
	return slices.ContainsFunc(v, func(k api.Dot) bool { return k.Replica == d.Replica && 1 <= d.Seq && d.Seq <= k.Seq })
}

// plainLeq tells whether v, a vector, knows no more than w, another one.
func plainLeq(v, w api.Vec) bool {
	return !slices.ContainsFunc(v, func(d api.Dot) bool { return !plainHas(w, d) })
}

// plainVector tells whether v is a vector of replicas below n.
func plainVector(v api.Vec, n int) bool {
	for i, d := range v {
		if d.Replica < 0 || d.Replica >= n || d.Seq < 1 || d.Seq > 1<<40 || i > 0 && v[i-1].Replica >= d.Replica {
			return false
		}
	}
	return true
}

// plainBut tells whether all but b's blobs is as in a bundle that may be, by chapter 16's words.
func plainBut(b api.Bundle, n int) bool {
	if n < 1 || n > 32 || b.From < 0 || b.From >= n || b.To < -1 || b.To >= n || b.To == b.From || b.Id < 1 || b.Id > 1<<40 {
		return false
	}
	if !plainVector(b.Base, n) || !plainVector(b.Know, n) || !plainLeq(b.Base, b.Know) || !heads.May(b.Events) || len(b.Acks) != n {
		return false
	}
	for _, e := range b.Events {
		if !plainHas(b.Know, e.Dot) || plainHas(b.Base, e.Dot) || !plainLeq(e.Deps, b.Know) {
			return false
		}
	}
	for _, row := range b.Acks {
		if !plainVector(row, n) {
			return false
		}
	}
	return slices.Equal(b.Acks[b.From], b.Know)
}

// fits tells whether data is of e's Size and Sum.
func fits(e api.Event, data []byte) bool {
	return e.Kind == 1 && e.Size == len(data) && e.Sum == sha256.Sum256(data)
}

// figures is the digest of data as a text; of two digests as texts the lesser one's bytes are the lesser ones.
func figures(data []byte) string {
	return fmt.Sprintf("%x", sha256.Sum256(data))
}

// plainMay tells whether b may be, by chapter 16's words.
func plainMay(b api.Bundle, n int) bool {
	for i, blob := range b.Blobs {
		if i > 0 && figures(b.Blobs[i-1]) >= figures(blob) || !slices.ContainsFunc(b.Events, func(e api.Event) bool { return fits(e, blob) }) {
			return false
		}
	}
	for _, e := range b.Events {
		if e.Kind == 1 && !slices.ContainsFunc(b.Blobs, func(blob []byte) bool { return fits(e, blob) }) {
			return false
		}
	}
	return plainBut(b, n)
}

// plainReadVec is the dots of s: whatever the standard library reads.
func plainReadVec(s string) api.Vec {
	var v api.Vec
	for _, text := range strings.Split(s, ",") {
		first, second, found := strings.Cut(text, ":")
		if !found {
			continue
		}
		replica, _ := strconv.Atoi(first)
		seq, _ := strconv.ParseInt(second, 10, 64)
		v = append(v, api.Dot{Replica: replica, Seq: seq})
	}
	return v
}

// plainReadEvent is the event of a line: whatever the standard library reads.
func plainReadEvent(line string) api.Event {
	words := append(strings.Split(line, " "), "", "", "", "", "", "")
	e := api.Event{Kind: 2, Deps: plainReadVec(words[2]), Path: words[3]}
	for _, e.Dot = range plainReadVec(words[1]) {
	}
	if words[0] == "put" {
		e.Kind = 1
		var sum []byte
		fmt.Sscanf(words[4], "%64x", &sum)
		copy(e.Sum[:], sum)
		e.Size, _ = strconv.Atoi(words[5])
	}
	return e
}

// plainRead is the bundle, and the n, of which s is the manifest: whatever the standard library reads, if it may be but for its blobs, and has that manifest.
func plainRead(s string) (api.Bundle, int, bool) {
	lines := strings.Split(s, "\n")
	if len(lines) < 6 {
		return api.Bundle{}, 0, false
	}
	var b api.Bundle
	var n int
	fmt.Sscanf(lines[0], "bindle %d", &n)
	fmt.Sscanf(lines[1], "from %d %d %d", &b.From, &b.To, &b.Id)
	b.Base = plainReadVec(strings.TrimPrefix(lines[2], "base "))
	b.Know = plainReadVec(strings.TrimPrefix(lines[3], "know "))
	for _, row := range strings.Split(strings.TrimPrefix(lines[4], "acks "), ";") {
		b.Acks = append(b.Acks, plainReadVec(row))
	}
	for _, line := range lines[5 : len(lines)-1] {
		b.Events = append(b.Events, plainReadEvent(line))
	}
	return b, n, plainBut(b, n) && plainManifest(b, n) == s
}

// filesOf is the files of b's archive, by the chapter's words, whether b may be or not.
func filesOf(b api.Bundle, n int) []api.File {
	l := []api.File{{Path: "manifest", Data: []byte(plainManifest(b, n))}}
	for _, blob := range b.Blobs {
		l = append(l, api.File{Path: "blob/" + figures(blob), Data: blob})
	}
	return l
}

// archive is the archive of l, which must have one.
func archive(t *testing.T, l []api.File) []byte {
	t.Helper()
	x, failed := ustar.Put(l)
	tells(t, failed, api.OK, "the error of ustar.Put(%.999s)", toldFiles(l))
	return x
}

// plainEncode is the archive of b, by the chapter's words.
func plainEncode(t *testing.T, b api.Bundle, n int) ([]byte, api.Errno) {
	t.Helper()
	if !plainMay(b, n) {
		return nil, 1
	}
	l := filesOf(b, n)
	total := 0
	for _, f := range l {
		total += len(f.Data)
	}
	if len(l) > 400 || total > 1<<22 {
		return nil, 5
	}
	return archive(t, l), 0
}

// filesIn is the files that the standard library finds in x.
func filesIn(x []byte) ([]api.File, bool) {
	var l []api.File
	r := tar.NewReader(bytes.NewReader(x))
	for {
		h, err := r.Next()
		if err == io.EOF {
			return l, true
		}
		if err != nil {
			return nil, false
		}
		data, err := io.ReadAll(r)
		if err != nil {
			return nil, false
		}
		l = append(l, api.File{Path: h.Name, Data: data})
	}
}

// plainDecode is the bundle, and the n, of which x is the archive, among those that the standard library finds in it.
func plainDecode(t *testing.T, x []byte) (api.Bundle, int, bool) {
	t.Helper()
	l, ok := filesIn(x)
	if !ok || len(l) == 0 {
		return api.Bundle{}, 0, false
	}
	b, n, ok := plainRead(string(l[0].Data))
	for _, f := range l[1:] {
		b.Blobs = append(b.Blobs, f.Data)
	}
	if !ok {
		return api.Bundle{}, 0, false
	}
	again, failed := plainEncode(t, b, n)
	return b, n, failed == 0 && bytes.Equal(again, x)
}

// noManifest holds that s is the manifest of none.
func noManifest(t *testing.T, s string) {
	t.Helper()
	b, n, failed := Read(s)
	tells(t, failed, api.ErrForm, "the error of Read(%q)", s)
	tells(t, n, 0, "the n of Read(%q)", s)
	tells(t, told(b), told(api.Bundle{}), "Read(%q)", s)
}

// isRead holds that s is read as b without its blobs, and n.
func isRead(t *testing.T, s string, b api.Bundle, n int) {
	t.Helper()
	b.Blobs = nil
	got, gotN, failed := Read(s)
	tells(t, failed, api.OK, "the error of Read(%q)", s)
	tells(t, gotN, n, "the n of Read(%q)", s)
	tells(t, told(got), told(b), "Read(%q)", s)
}

// readAsPlain holds that s is read as the chapter's words have it, and tells whether it is a manifest.
func readAsPlain(t *testing.T, s string) bool {
	t.Helper()
	b, n, ok := plainRead(s)
	if ok {
		isRead(t, s, b, n)
	} else {
		noManifest(t, s)
	}
	return ok
}

// noArchive holds that x is the archive of none.
func noArchive(t *testing.T, x []byte) {
	t.Helper()
	b, n, failed := Decode(x)
	tells(t, failed, api.ErrForm, "the error of Decode(%q)", x)
	tells(t, n, 0, "the n of Decode(%q)", x)
	tells(t, told(b), told(api.Bundle{}), "Decode(%q)", x)
}

// isDecoded holds that x is decoded as b and n.
func isDecoded(t *testing.T, x []byte, b api.Bundle, n int) {
	t.Helper()
	got, gotN, failed := Decode(x)
	tells(t, failed, api.OK, "the error of Decode of the archive of %s", told(b))
	tells(t, gotN, n, "the n of Decode of the archive of %s", told(b))
	tells(t, told(got), told(b), "Decode of an archive")
	tells(t, bundle.Same(got, b), true, "Same of what is decoded and %s", told(b))
}

// decodedAsPlain holds that x is decoded as the chapter's words have it, and tells whether it is an archive of a bundle.
func decodedAsPlain(t *testing.T, x []byte) bool {
	t.Helper()
	b, n, ok := plainDecode(t, x)
	if ok {
		isDecoded(t, x, b, n)
	} else {
		noArchive(t, x)
	}
	return ok
}

// laidAsPlain holds that Manifest and Encode tell of b what the chapter's words have; it tells Encode's error.
func laidAsPlain(t *testing.T, b api.Bundle, n int) api.Errno {
	t.Helper()
	s, failed := Manifest(b, n)
	x, failedX := Encode(b, n)
	want, wantX := "", api.ErrArg
	if plainMay(b, n) {
		want, wantX = plainManifest(b, n), api.OK
	}
	tells(t, failed, wantX, "the error of Manifest(%s, %d)", told(b), n)
	tells(t, s, want, "Manifest(%s, %d)", told(b), n)
	y, wantX := plainEncode(t, b, n)
	tells(t, failedX, wantX, "the error of Encode(%s, %d)", told(b), n)
	tells(t, string(x), string(y), "Encode(%s, %d)", told(b), n)
	return failedX
}

// thereAndBack holds that b, which may be, is laid and read again.
func thereAndBack(t *testing.T, b api.Bundle, n int) {
	t.Helper()
	tells(t, laidAsPlain(t, b, n), api.OK, "the error of Encode(%s, %d)", told(b), n)
	isRead(t, plainManifest(b, n), b, n)
	isDecoded(t, archive(t, filesOf(b, n)), b, n)
}

// notLaid holds that b may not be, and has neither a manifest nor an archive.
func notLaid(t *testing.T, b api.Bundle, n int) {
	t.Helper()
	tells(t, laidAsPlain(t, b, n), api.ErrArg, "the error of Encode(%s, %d)", told(b), n)
}

// v is the vector of a text.
func v(text string) api.Vec {
	vector, e := vec.Parse(text)
	if e != api.OK {
		panic("no vector's text: " + text)
	}
	return vector
}

// put is a put of a file.
func put(replica int, seq int64, deps, path, data string) api.Event {
	return api.Event{Dot: api.Dot{Replica: replica, Seq: seq}, Deps: v(deps), Kind: api.Put, Path: path, Sum: sha256.Sum256([]byte(data)), Size: len(data)}
}

// del is a delete.
func del(replica int, seq int64, deps, path string) api.Event {
	return api.Event{Dot: api.Dot{Replica: replica, Seq: seq}, Deps: v(deps), Kind: api.Delete, Path: path}
}

// blobs is contents of texts, rising by their digests.
func blobs(texts ...string) [][]byte {
	var l [][]byte
	for _, text := range texts {
		l = append(l, []byte(text))
	}
	sort.Slice(l, func(i, j int) bool { return figures(l[i]) < figures(l[j]) })
	return l
}

// whole is a bundle that may be, of three replicas, with all that a bundle can have.
func whole() api.Bundle {
	return api.Bundle{
		From: 1, To: 2, Id: 7, Base: v("0:1,1:1"), Know: v("0:2,1:3,2:2"),
		Events: []api.Event{
			put(0, 2, "0:1", "a", "x"),
			del(1, 2, "0:1,1:1", "b"),
			put(1, 3, "0:2,1:2", "c", "yy"),
			put(2, 1, "-", "c", "x"),
			put(2, 2, "0:1,2:1", "d", ""),
		},
		Acks:  []api.Vec{v("0:2"), v("0:2,1:3,2:2"), v("1:9,2:5")},
		Blobs: blobs("x", "yy", ""),
	}
}

// bare is a bundle that knows nothing, from one replica of n to another one.
func bare(from, to, n int) api.Bundle {
	return api.Bundle{From: from, To: to, Id: 1, Acks: make([]api.Vec, max(n, 0))}
}

// gone is a bundle of one delete, of two replicas.
func gone() api.Bundle {
	b := bare(1, 0, 2)
	b.Id, b.Know, b.Events, b.Acks[1] = 3, v("1:1"), []api.Event{del(1, 1, "-", "a")}, v("1:1")
	return b
}

// one is a bundle of one put, of one replica.
func one() api.Bundle {
	b := bare(0, -1, 1)
	b.Know, b.Events, b.Acks[0], b.Blobs = v("0:1"), []api.Event{put(0, 1, "-", "a", "x")}, v("0:1"), blobs("x")
	return b
}

// sumOf is the figures of a content whose digest is known without any library.
var sumOf = map[string]string{
	"":    "e3b0c44298fc1c149afbf4c8996fb92427ae41e4649b934ca495991b7852b855",
	"abc": "ba7816bf8f01cfea414140de5dae2223b00361a396177a9cb410ff61f20015ad",
}

func TestP17_1Examples(t *testing.T) {
	three := bare(0, -1, 3)
	s, failed := Manifest(three, 3)
	tells(t, failed, api.OK, "the error of Manifest of nothing")
	tells(t, s, "bindle 3\nfrom 0 -1 1\nbase -\nknow -\nacks -;-;-\n", "Manifest of nothing")
	isRead(t, s, three, 3)

	s, failed = Manifest(gone(), 2)
	tells(t, failed, api.OK, "the error of Manifest of a delete")
	tells(t, s, "bindle 2\nfrom 1 0 3\nbase -\nknow 1:1\nacks -;1:1\ndel 1:1 - a\n", "Manifest of a delete")
	isRead(t, s, gone(), 2)

	b := api.Bundle{
		From: 1, To: 0, Id: 1 << 40, Base: v("0:1,2:7"), Know: v("0:2,1:10,2:9,3:1099511627776"),
		Events: []api.Event{put(0, 2, "0:1,3:5", "a", "abc"), del(1, 10, "1:9,2:9", "a/b.c"), put(3, 1, "-", "a/b.c", "")},
		Acks:   []api.Vec{nil, v("0:2,1:10,2:9,3:1099511627776"), v("2:5"), v("0:77,3:9")},
		Blobs:  [][]byte{[]byte("abc"), nil},
	}
	s, failed = Manifest(b, 4)
	tells(t, failed, api.OK, "the error of Manifest of more")
	tells(t, s, "bindle 4\nfrom 1 0 1099511627776\nbase 0:1,2:7\nknow 0:2,1:10,2:9,3:1099511627776\nacks -;0:2,1:10,2:9,3:1099511627776;2:5;0:77,3:9\n"+
		"put 0:2 0:1,3:5 a "+sumOf["abc"]+" 3\ndel 1:10 1:9,2:9 a/b.c\nput 3:1 - a/b.c "+sumOf[""]+" 0\n", "Manifest of more")
	isRead(t, s, b, 4)
	thereAndBack(t, whole(), 3)
}

// TestP17_1Rosters has all rosters, with all replicas from which, and to which, a bundle may go, and others.
func TestP17_1Rosters(t *testing.T) {
	count := 0
	for n := -1; n <= 34; n++ {
		for from := -2; from <= n+1; from++ {
			for to := -3; to <= n+1; to++ {
				b := bare(from, to, n)
				want := 1 <= n && n <= 32 && 0 <= from && from < n && -1 <= to && to < n && to != from
				tells(t, readAsPlain(t, plainManifest(b, n)), want, "whether there is a bundle of %d from %d to %d", n, from, to)
				_, failed := Manifest(b, n)
				tells(t, failed == api.OK, want, "whether there is a manifest of %d from %d to %d", n, from, to)
				if want {
					count++
				}
			}
		}
	}
	tells(t, count, 32*33*65/6, "how many may be")
	for _, n := range []int{math.MinInt, -1 << 32, 0, 33, 1 << 32, 1<<32 + 3, math.MaxInt} {
		notLaid(t, whole(), n)
		notLaid(t, bare(0, -1, 3), n)
		noManifest(t, plainManifest(bare(0, -1, 3), n))
		odd := bare(n, -1, 3)
		if n != 0 {
			notLaid(t, odd, 3)
			noManifest(t, plainManifest(odd, 3))
		}
		odd.From, odd.To = 0, n
		notLaid(t, odd, 3)
		noManifest(t, plainManifest(odd, 3))
	}
}

func TestP17_1Ids(t *testing.T) {
	for id, want := range map[int64]bool{1: true, 2: true, 9: true, 10: true, 1<<32 + 1: true, 1<<40 - 1: true, 1 << 40: true, 0: false, -1: false, 1<<40 + 1: false, 1<<41 + 1: false, math.MinInt64: false, math.MaxInt64: false} {
		b := gone()
		b.Id = id
		tells(t, laidAsPlain(t, b, 2) == api.OK, want, "whether id %d may be", id)
		tells(t, readAsPlain(t, plainManifest(b, 2)), want, "whether id %d is read", id)
	}
}

// turn is what makes another bundle of a whole one.
type turn struct {
	what string
	make func(b *api.Bundle)
}

// odds is what makes bundles that may not be of three replicas, for what their manifests tell.
func odds() []turn {
	return []turn{
		{"from another one", func(b *api.Bundle) { b.From = 0 }},
		{"from none", func(b *api.Bundle) { b.From = -1 }},
		{"from 3", func(b *api.Bundle) { b.From = 3 }},
		{"to itself", func(b *api.Bundle) { b.To = 1 }},
		{"to 3", func(b *api.Bundle) { b.To = 3 }},
		{"to -2", func(b *api.Bundle) { b.To = -2 }},
		{"of no id", func(b *api.Bundle) { b.Id = 0 }},
		{"of an id beyond all", func(b *api.Bundle) { b.Id = 1<<40 + 1 }},
		{"a base that knows more", func(b *api.Bundle) { b.Base = v("0:3,1:1") }},
		{"a base of another replica", func(b *api.Bundle) { b.Base = v("3:1") }},
		{"a base that falls", func(b *api.Bundle) { slices.Reverse(b.Base) }},
		{"a base of number 0", func(b *api.Bundle) { b.Base = append(b.Base, api.Dot{Replica: 2}) }},
		{"a base of a replica twice", func(b *api.Bundle) { b.Base = append(b.Base, b.Base[1]) }},
		{"a base that knows an event", func(b *api.Bundle) { b.Base = v("0:2,1:1") }},
		{"a base that knows a delete", func(b *api.Bundle) { b.Base = v("0:1,1:2") }},
		{"less known than a put", func(b *api.Bundle) { b.Know = v("0:2,1:3,2:1"); b.Acks[1] = b.Know }},
		{"less known than deps", func(b *api.Bundle) { b.Events[4] = put(2, 2, "0:3,2:1", "d", "") }},
		{"less known than a delete's deps", func(b *api.Bundle) { b.Events[1] = del(1, 2, "0:3,1:1", "b") }},
		{"known of another replica", func(b *api.Bundle) { b.Know = append(b.Know, api.Dot{Replica: 3, Seq: 1}); b.Acks[1] = b.Know }},
		{"known, and falling", func(b *api.Bundle) { slices.Reverse(b.Know); b.Acks[1] = b.Know }},
		{"known beyond all", func(b *api.Bundle) { b.Know[0].Seq = 1<<40 + 1; b.Acks[1] = b.Know }},
		{"another row", func(b *api.Bundle) { b.Acks[1] = v("0:2,1:3") }},
		{"no row", func(b *api.Bundle) { b.Acks[1] = nil }},
		{"a row too few", func(b *api.Bundle) { b.Acks = b.Acks[:2] }},
		{"a row too many", func(b *api.Bundle) { b.Acks = append(b.Acks, nil) }},
		{"no rows", func(b *api.Bundle) { b.Acks = nil }},
		{"a row of another replica", func(b *api.Bundle) { b.Acks[0] = v("3:1") }},
		{"a row that falls", func(b *api.Bundle) { slices.Reverse(b.Acks[2]) }},
		{"a row of number 0", func(b *api.Bundle) { b.Acks[0][0].Seq = 0 }},
		{"events that fall", func(b *api.Bundle) { slices.Reverse(b.Events) }},
		{"two events turned", func(b *api.Bundle) { b.Events[0], b.Events[1] = b.Events[1], b.Events[0] }},
		{"two events at a path turned", func(b *api.Bundle) { b.Events[2], b.Events[3] = b.Events[3], b.Events[2] }},
		{"an event twice", func(b *api.Bundle) { b.Events = slices.Insert(b.Events, 1, b.Events[0]) }},
		{"a dot twice", func(b *api.Bundle) { b.Events[4] = put(2, 1, "-", "d", "") }},
		{"an event known at its path", func(b *api.Bundle) { b.Events[2] = put(1, 3, "0:2,1:2,2:1", "c", "yy") }},
		{"an event at no path", func(b *api.Bundle) { b.Events[0].Path = "" }},
		{"an event at a path that is none", func(b *api.Bundle) { b.Events[4].Path = "d//e" }},
		{"an event at a copy's path", func(b *api.Bundle) { b.Events[4].Path = "d~0-1" }},
		{"an event at a path of two words", func(b *api.Bundle) { b.Events[4].Path = "d e" }},
		{"an event at a path of two lines", func(b *api.Bundle) { b.Events[4].Path = "d\ne" }},
		{"an event that doesn't know those ahead", func(b *api.Bundle) { b.Events[4] = put(2, 2, "0:1", "d", "") }},
		{"an event of a size beyond all", func(b *api.Bundle) { b.Events[0].Size = 65537 }},
		{"an event of a size below 0", func(b *api.Bundle) { b.Events[0].Size = -1 }},
	}
}

// TestP17_1But has manifests of bundles of which one thing, but for blobs, may not be: none is read.
func TestP17_1But(t *testing.T) {
	for _, odd := range odds() {
		b := whole()
		odd.make(&b)
		tells(t, plainBut(b, 3), false, "whether a bundle may be that has %s", odd.what)
		notLaid(t, b, 3)
		noManifest(t, plainManifest(b, 3))
		noArchive(t, archive(t, filesOf(b, 3)))
	}
	for _, n := range []int{-3, 0, 1, 2, 4, 32, 33} {
		notLaid(t, whole(), n)
		noManifest(t, plainManifest(whole(), n))
		noArchive(t, archive(t, filesOf(whole(), n)))
	}
	// What isn't told in any manifest keeps a bundle from being one, too.
	for _, other := range []turn{
		{"of no kind", func(b *api.Bundle) { b.Events[1].Kind = 0 }},
		{"of another kind", func(b *api.Bundle) { b.Events[1].Kind = 3 }},
		{"a delete of a size", func(b *api.Bundle) { b.Events[1].Size = 1 }},
		{"a delete of a digest", func(b *api.Bundle) { b.Events[1].Sum[31] = 1 }},
		{"a blob too few", func(b *api.Bundle) { b.Blobs = b.Blobs[1:] }},
		{"a blob too many", func(b *api.Bundle) { b.Blobs = blobs("x", "yy", "", "z") }},
		{"a blob twice", func(b *api.Bundle) { b.Blobs = slices.Insert(b.Blobs, 1, b.Blobs[0]) }},
		{"blobs that fall", func(b *api.Bundle) { slices.Reverse(b.Blobs) }},
		{"another blob", func(b *api.Bundle) { b.Blobs = blobs("x", "yz", "") }},
		{"no blobs", func(b *api.Bundle) { b.Blobs = nil }},
		{"a put of another size", func(b *api.Bundle) { b.Events[0].Size = 2 }},
		{"a put of another digest", func(b *api.Bundle) { b.Events[0].Sum[0] ^= 1 }},
	} {
		b := whole()
		other.make(&b)
		tells(t, plainMay(b, 3), false, "whether a bundle may be that has %s", other.what)
		notLaid(t, b, 3)
	}
	notLaid(t, api.Bundle{}, 1)
	notLaid(t, api.Bundle{}, 0)
}

// TestP17_1ReadBlobs holds that what blobs there are, and whether there are any, doesn't matter to what is read.
func TestP17_1ReadBlobs(t *testing.T) {
	c := chain(181)
	for _, size := range []int{0, 1, 2, 9, 10, 65535, 65536} {
		for range 50 {
			b := whole()
			for i := range b.Events[0].Sum {
				b.Events[0].Sum[i] = byte(c.below(256))
			}
			b.Events[0].Size = size
			// The put of another size has the same digest, so that no blobs could be those of both.
			b.Events[3].Sum = b.Events[0].Sum
			isRead(t, plainManifest(b, 3), b, 3)
			notLaid(t, b, 3)
		}
	}
	b := whole()
	b.Events[0].Sum = api.Digest{}
	isRead(t, plainManifest(b, 3), b, 3)
	for _, b.Blobs = range [][][]byte{nil, blobs("x"), blobs("x", "yy", "", "z"), {nil, nil}} {
		isRead(t, plainManifest(b, 3), b, 3)
	}
	// What no library made.
	isRead(t, "bindle 1\nfrom 0 -1 1\nbase -\nknow 0:2\nacks 0:2\nput 0:1 - a "+sumOf["abc"]+" 3\nput 0:2 0:1 b "+sumOf["abc"]+" 4\n", api.Bundle{
		From: 0, To: -1, Id: 1, Know: v("0:2"), Acks: []api.Vec{v("0:2")},
		Events: []api.Event{put(0, 1, "-", "a", "abc"), {Dot: api.Dot{Replica: 0, Seq: 2}, Deps: v("0:1"), Kind: api.Put, Path: "b", Sum: sha256.Sum256([]byte("abc")), Size: 4}},
	}, 1)
}

func TestP17_1ReadWrong(t *testing.T) {
	ok := "bindle 2\nfrom 1 0 3\nbase -\nknow 1:1\nacks -;1:1\ndel 1:1 - a\n"
	tells(t, readAsPlain(t, ok), true, "whether %q is read", ok)
	for _, c := range [][2]string{
		// The roster.
		{"bindle 2", "bindle 02"}, {"bindle 2", "bindle +2"}, {"bindle 2", "bindle -2"}, {"bindle 2", "bindle 2 "}, {"bindle 2", "bindle  2"}, {"bindle 2", " bindle 2"}, {"bindle 2", "bindle"}, {"bindle 2", "bindle "}, {"bindle 2", "bindle2"}, {"bindle 2", "Bindle 2"}, {"bindle 2", "BINDLE 2"}, {"bindle 2", "bundle 2"}, {"bindle 2", "2"}, {"bindle 2", ""}, {"bindle 2", "bindle 2 2"}, {"bindle 2", "bindle 2.0"}, {"bindle 2", "bindle 0x2"}, {"bindle 2", "bindle 1"}, {"bindle 2", "bindle 3"}, {"bindle 2", "bindle 0"}, {"bindle 2", "bindle 33"}, {"bindle 2", "bindle 4294967298"}, {"bindle 2", "bindle 18446744073709551618"}, {"bindle 2", "bindle two"}, {"bindle 2", "bindle\t2"}, {"bindle 2", "bindle\u00a02"}, {"bindle 2", "\ufeffbindle 2"}, {"bindle 2", "bindle \u0662"},
		// From, to whom, and which.
		{"from 1 0 3", "from 1 0"}, {"from 1 0 3", "from 1 0 "}, {"from 1 0 3", "from 1 0 3 "}, {"from 1 0 3", "from 1 0 3 4"}, {"from 1 0 3", "from  1 0 3"}, {"from 1 0 3", "from 1  0 3"}, {"from 1 0 3", "from 1 0  3"}, {"from 1 0 3", "from 1 3"}, {"from 1 0 3", "from 1 0,3"}, {"from 1 0 3", "from 01 0 3"}, {"from 1 0 3", "from 1 00 3"}, {"from 1 0 3", "from 1 0 03"}, {"from 1 0 3", "from 1 -0 3"}, {"from 1 0 3", "from 1 +0 3"}, {"from 1 0 3", "from 1 -01 3"}, {"from 1 0 3", "from 1 --1 3"}, {"from 1 0 3", "from 1 - 3"}, {"from 1 0 3", "from 1  3"}, {"from 1 0 3", "from 1 -2 3"}, {"from 1 0 3", "from 1 1 3"}, {"from 1 0 3", "from 1 2 3"}, {"from 1 0 3", "from 0 1 3"}, {"from 1 0 3", "from -1 0 3"}, {"from 1 0 3", "from 2 0 3"}, {"from 1 0 3", "from 4294967297 0 3"}, {"from 1 0 3", "from 18446744073709551617 0 3"}, {"from 1 0 3", "from 1 0 0"}, {"from 1 0 3", "from 1 0 -3"}, {"from 1 0 3", "from 1 0 +3"}, {"from 1 0 3", "from 1 0 1099511627777"}, {"from 1 0 3", "from 1 0 18446744073709551619"}, {"from 1 0 3", "From 1 0 3"}, {"from 1 0 3", "1 0 3"}, {"from 1 0 3", "from"}, {"from 1 0 3", ""}, {"from 1 0 3", "to 1 0 3"}, {"from 1 0 3", "from 1 18446744073709551615 3"}, {"from 1 0 3", "from 1 4294967295 3"},
		// What whoever knows knows.
		{"base -", "base"}, {"base -", "base "}, {"base -", "base - "}, {"base -", "base  -"}, {"base -", "base --"}, {"base -", "base -,-"}, {"base -", "base -,1:1"}, {"base -", "base 1:1"}, {"base -", "base 1:2"}, {"base -", "base 0:1"}, {"base -", "base 2:1"}, {"base -", "base 1:0"}, {"base -", "base 0"}, {"base -", "base - -"}, {"base -", "Base -"}, {"base -", "-"}, {"base -", ""}, {"base -", "know -"}, {"base -", "base 1:1,"}, {"base -", "base ,"},
		{"know 1:1", "know"}, {"know 1:1", "know "}, {"know 1:1", "know -"}, {"know 1:1", "know 1:1 "}, {"know 1:1", "know  1:1"}, {"know 1:1", "know 01:1"}, {"know 1:1", "know 1:01"}, {"know 1:1", "know 1:1,"}, {"know 1:1", "know 1:1,1:1"}, {"know 1:1", "know 1:2"}, {"know 1:1", "know 0:1"}, {"know 1:1", "know 0:1,1:1"}, {"know 1:1", "know 1:1 1:1"}, {"know 1:1", "Know 1:1"}, {"know 1:1", "1:1"}, {"know 1:1", "base 1:1"}, {"know 1:1", ""},
		// What is known of all.
		{"acks -;1:1", "acks"}, {"acks -;1:1", "acks "}, {"acks -;1:1", "acks 1:1"}, {"acks -;1:1", "acks -;1:1;"}, {"acks -;1:1", "acks -;1:1;-"}, {"acks -;1:1", "acks ;1:1"}, {"acks -;1:1", "acks -; 1:1"}, {"acks -;1:1", "acks - ;1:1"}, {"acks -;1:1", "acks -,1:1"}, {"acks -;1:1", "acks 1:1;-"}, {"acks -;1:1", "acks -;-"}, {"acks -;1:1", "acks -;1:2"}, {"acks -;1:1", "acks -;0:1,1:1"}, {"acks -;1:1", "acks 2:1;1:1"}, {"acks -;1:1", "acks -;1:1 "}, {"acks -;1:1", "acks  -;1:1"}, {"acks -;1:1", "Acks -;1:1"}, {"acks -;1:1", "-;1:1"}, {"acks -;1:1", "ack -;1:1"}, {"acks -;1:1", ""},
		// Events.
		{"del 1:1 - a", "del 1:1 - a "}, {"del 1:1 - a", " del 1:1 - a"}, {"del 1:1 - a", "del 1:1  - a"}, {"del 1:1 - a", "del 1:1 - "}, {"del 1:1 - a", "put 1:1 - a"}, {"del 1:1 - a", "put 1:1 - a " + sumOf[""]}, {"del 1:1 - a", "put 1:1 - a " + sumOf[""] + " 00"}, {"del 1:1 - a", "put 1:1 - a " + sumOf[""] + " 65537"}, {"del 1:1 - a", "put 1:1 - a " + strings.ToUpper(sumOf[""]) + " 0"}, {"del 1:1 - a", "put 1:1 - a " + sumOf[""][1:] + " 0"}, {"del 1:1 - a", "del 1:2 - a"}, {"del 1:1 - a", "del 1:2 1:1 a"}, {"del 1:1 - a", "del 0:1 - a"}, {"del 1:1 - a", "del 1:1 0:1 a"}, {"del 1:1 - a", "del 1:1 1:1 a"}, {"del 1:1 - a", "del 1:1 - a~1-1"}, {"del 1:1 - a", "del 1:1 - a//b"}, {"del 1:1 - a", "del 1:1 - a b"}, {"del 1:1 - a", "Del 1:1 - a"}, {"del 1:1 - a", "delete 1:1 - a"}, {"del 1:1 - a\n", "del 1:1 - a\ndel 1:1 - a\n"}, {"del 1:1 - a\n", "del 1:1 - a\ndel 1:1 - b\n"}, {"del 1:1 - a\n", "del 1:1 - a\ndel 2:1 - b\n"}, {"del 1:1 - a\n", "del 1:1 - a\nput 1:1 - a " + sumOf[""] + " 0\n"},
		// Ends.
		{"a\n", "a"}, {"a\n", "a\n\n"}, {"a\n", "a\n\n\n"}, {"a\n", "a\n "}, {"a\n", "a\n \n"}, {"a\n", "a\r\n"}, {"a\n", "a\n\x00"}, {"a\n", "a\x00\n"}, {"a\n", "a\nend\n"}, {"a\n", "\n"}, {"a\n", ""}, {"del 1:1 - a\n", "\n"}, {"\nbase", "\n\nbase"}, {"bindle", "\nbindle"}, {"\n", "\r\n"}, {"\n", ""}, {"\n", " "}, {"\n", "\r"}, {"\n", ";"}, {"\nfrom", "\r\nfrom"}, {" ", "\t"}, {"\nknow", " know"},
	} {
		tells(t, strings.Contains(ok, c[0]), true, "whether %q is there", c[0])
		noManifest(t, strings.Replace(ok, c[0], c[1], 1))
		noManifest(t, strings.ReplaceAll(ok, c[0], c[1]))
	}
	// Words of the same place that may stand there.
	for _, c := range [][2]string{
		{"from 1 0 3", "from 1 -1 3"}, {"from 1 0 3", "from 1 0 1"}, {"from 1 0 3", "from 1 0 1099511627776"}, {"acks -;1:1", "acks 0:5,1:9;1:1"}, {"del 1:1 - a\n", ""}, {"del 1:1 - a", "del 1:1 - from"}, {"del 1:1 - a", "put 1:1 - a " + sumOf[""] + " 0"}, {"del 1:1 - a", "put 1:1 - a " + strings.Repeat("0", 64) + " 65536"},
	} {
		tells(t, readAsPlain(t, strings.Replace(ok, c[0], c[1], 1)), true, "whether it is read, with %q", c[1])
	}
	for _, s := range []string{"", " ", "\n", "\n\n\n\n\n", "\n\n\n\n\n\n", "bindle", "bindle 2", "bindle 2\n", ok + ok, ok[1:], "\x00" + ok, "manifest\n" + ok, string(archive(t, filesOf(gone(), 2)))} {
		noManifest(t, s)
	}
}

// TestP17_1ReadLines has a manifest's lines in all orders, and with one more, or one less, or another one's at each place.
func TestP17_1ReadLines(t *testing.T) {
	lines := strings.SplitAfter(strings.TrimSuffix(plainManifest(gone(), 2), "\n"), "\n")
	lines[len(lines)-1] += "\n"
	tells(t, len(lines), 6, "the count of lines")
	tells(t, readAsPlain(t, strings.Join(lines, "")), true, "whether the lines in their order are read")
	count := 0
	var orders func(ahead, left []string)
	orders = func(ahead, left []string) {
		if len(left) == 0 && readAsPlain(t, strings.Join(ahead, "")) {
			count++
		}
		for i, line := range left {
			orders(append(slices.Clone(ahead), line), slices.Delete(slices.Clone(left), i, i+1))
		}
	}
	orders(nil, lines)
	tells(t, count, 1, "the count of orders that are read")
	others := slices.Concat(lines, []string{"\n", " \n", "base 1:1\n", "know -\n", "acks -;-\n", "del 1:2 1:1 a\n", "del 1:2 1:1 b\n", "put 1:1 - a " + sumOf[""] + " 0\n", "bindle 1\n", "from 1 -1 3\n"})
	for i := range len(lines) + 1 {
		for _, other := range others {
			noManifest(t, strings.Join(slices.Insert(slices.Clone(lines), i, other), ""))
			if i < len(lines) {
				replaced := slices.Clone(lines)
				replaced[i] = other
				readAsPlain(t, strings.Join(replaced, ""))
			}
		}
		if i < len(lines) {
			tells(t, readAsPlain(t, strings.Join(slices.Delete(slices.Clone(lines), i, i+1), "")), i == 5, "whether it is read without line %d", i)
		}
	}
}

// TestP17_1ReadAnyByte has each byte at each place of manifests, in place of what stands there, and between; and what is left without some.
func TestP17_1ReadAnyByte(t *testing.T) {
	all := make([]byte, 256)
	for i := range all {
		all[i] = byte(i)
	}
	some := []byte("\x00\t\n\r 0129-,:;~/abdefgpz\x80\xff")
	count := 0
	for _, c := range []struct {
		s     string
		bytes []byte
	}{
		{plainManifest(gone(), 2), all},
		{plainManifest(one(), 1), some},
		{plainManifest(whole(), 3), some[:7]},
	} {
		for i := range len(c.s) + 1 {
			for _, b := range c.bytes {
				noCount := readAsPlain(t, c.s[:i]+string([]byte{b})+c.s[i:])
				if i < len(c.s) && readAsPlain(t, c.s[:i]+string([]byte{b})+c.s[i+1:]) || noCount {
					count++
				}
			}
			for j := i; j <= len(c.s); j += 1 + len(c.s)/100 {
				readAsPlain(t, c.s[:i]+c.s[j:])
				readAsPlain(t, c.s[:j]+c.s[i:])
				readAsPlain(t, c.s[i:j])
			}
		}
	}
	// Bytes of digests and of paths may be others, and numbers may, too.
	if count < 500 {
		t.Errorf("only %d manifests", count)
	}
}

func TestP17_2Examples(t *testing.T) {
	for _, c := range []struct {
		b     api.Bundle
		n     int
		files []api.File
	}{
		{bare(0, -1, 3), 3, []api.File{{Path: "manifest", Data: []byte("bindle 3\nfrom 0 -1 1\nbase -\nknow -\nacks -;-;-\n")}}},
		{gone(), 2, []api.File{{Path: "manifest", Data: []byte("bindle 2\nfrom 1 0 3\nbase -\nknow 1:1\nacks -;1:1\ndel 1:1 - a\n")}}},
		{api.Bundle{From: 0, To: -1, Id: 5, Know: v("0:3"), Acks: []api.Vec{v("0:3")}, Blobs: [][]byte{[]byte("abc"), {}}, Events: []api.Event{put(0, 1, "-", "a", ""), put(0, 2, "0:1", "b", "abc"), put(0, 3, "0:2", "c", "abc")}}, 1, []api.File{
			{Path: "manifest", Data: []byte("bindle 1\nfrom 0 -1 5\nbase -\nknow 0:3\nacks 0:3\nput 0:1 - a " + sumOf[""] + " 0\nput 0:2 0:1 b " + sumOf["abc"] + " 3\nput 0:3 0:2 c " + sumOf["abc"] + " 3\n")},
			{Path: "blob/" + sumOf["abc"], Data: []byte("abc")},
			{Path: "blob/" + sumOf[""]},
		}},
	} {
		x, failed := Encode(c.b, c.n)
		tells(t, failed, api.OK, "the error of Encode(%s, %d)", told(c.b), c.n)
		found, _ := filesIn(x)
		tells(t, toldFiles(found), toldFiles(c.files), "the files of Encode(%s, %d)", told(c.b), c.n)
		tells(t, string(x), string(archive(t, c.files)), "Encode(%s, %d)", told(c.b), c.n)
		isDecoded(t, x, c.b, c.n)
		thereAndBack(t, c.b, c.n)
	}
}

// TestP17_2Sizes has blobs of all sizes about whole blocks, and the greatest.
func TestP17_2Sizes(t *testing.T) {
	for _, size := range []int{0, 1, 2, 3, 255, 256, 510, 511, 512, 513, 1023, 1024, 1025, 65535, 65536} {
		for _, c := range []byte{0, 1, '\n', 255} {
			data := string(bytes.Repeat([]byte{c}, size))
			b := one()
			b.Events[0], b.Blobs = put(0, 1, "-", "a", data), blobs(data)
			thereAndBack(t, b, 1)
		}
	}
	b := one()
	data := strings.Repeat("x", 65537)
	b.Events[0], b.Blobs = put(0, 1, "-", "a", data), blobs(data)
	notLaid(t, b, 1)
	noArchive(t, archive(t, filesOf(b, 1)))
}

// puts is a bundle of replica 0 with so many puts, each of another content, of those sizes.
func puts(sizes ...int) api.Bundle {
	b := one()
	b.Events = nil
	var texts []string
	for i, size := range sizes {
		deps := "-"
		if i > 0 {
			deps = fmt.Sprintf("0:%d", i)
		}
		text := fmt.Sprintf("%0*d", size, i)[:size]
		texts = append(texts, text)
		b.Events = append(b.Events, put(0, int64(i)+1, deps, fmt.Sprintf("f%04d", i), text))
	}
	b.Know = api.Vec{{Replica: 0, Seq: int64(len(sizes))}}
	b.Acks[0], b.Blobs = b.Know, blobs(texts...)
	return b
}

// encodes holds that b has a manifest there and back, and what Encode's error is; without one, it is decoded as it was.
func encodes(t *testing.T, b api.Bundle, n int, want api.Errno) {
	t.Helper()
	s, failed := Manifest(b, n)
	tells(t, failed, api.OK, "the error of Manifest")
	read, m, failed := Read(s)
	tells(t, failed, api.OK, "the error of Read")
	tells(t, m, n, "the n of Read")
	x, failed := Encode(b, n)
	tells(t, failed, want, "the error of Encode of %d blobs and a manifest of %d bytes", len(b.Blobs), len(s))
	if want != api.OK {
		tells(t, len(x), 0, "how many bytes there are beside an error")
	} else {
		again, m, failed := Decode(x)
		tells(t, failed, api.OK, "the error of Decode")
		tells(t, m, n, "the n of Decode")
		tells(t, bundle.Same(again, b), true, "Same of what is decoded")
	}
	read.Blobs = b.Blobs
	tells(t, bundle.Same(read, b), true, "Same of what is read")
	// Where the bundle may not be, that is told first.
	x, failed = Encode(b, n+1)
	tells(t, failed, api.ErrArg, "the error of Encode of %d", n+1)
	tells(t, len(x), 0, "how many bytes there are beside an error")
	b.Id = 0
	_, failed = Encode(b, n)
	tells(t, failed, api.ErrArg, "the error of Encode of no id")
}

func TestP17_2MostFiles(t *testing.T) {
	// The manifest is a file, too.
	for count, want := range map[int]api.Errno{398: api.OK, 399: api.OK, 400: api.ErrFull, 401: api.ErrFull, 1000: api.ErrFull} {
		encodes(t, puts(slices.Repeat([]int{4}, count)...), 1, want)
	}
	// Puts of one content have one blob.
	b := puts(slices.Repeat([]int{4}, 600)...)
	for i := range b.Events {
		b.Events[i].Sum = sha256.Sum256(fmt.Appendf(nil, "%04d", i%399))
	}
	b.Blobs = nil
	for i := range 399 {
		b.Blobs = append(b.Blobs, fmt.Appendf(nil, "%04d", i))
	}
	sort.Slice(b.Blobs, func(i, j int) bool { return figures(b.Blobs[i]) < figures(b.Blobs[j]) })
	encodes(t, b, 1, api.OK)
}

func TestP17_2MostBytes(t *testing.T) {
	sizes := slices.Repeat([]int{65536}, 64)
	sizes[63] = 40000
	s, _ := Manifest(puts(sizes...), 1)
	left := 1<<22 - len(s) - 63*65536
	for more, want := range map[int]api.Errno{-1: api.OK, 0: api.OK, 1: api.ErrFull, 512: api.ErrFull} {
		sizes[63] = left + more
		encodes(t, puts(sizes...), 1, want)
	}
	encodes(t, puts(slices.Repeat([]int{65536}, 64)...), 1, api.ErrFull)
	encodes(t, puts(slices.Repeat([]int{65536}, 80)...), 1, api.ErrFull)
}

// deletes is a bundle of replica 0 with so many deletes, whose paths have so many bytes less, all together, than they could.
func deletes(count, less int) api.Bundle {
	b := bare(0, -1, 2)
	for i := range count {
		cut := min(less, 80)
		less -= cut
		e := api.Event{Dot: api.Dot{Replica: 0, Seq: int64(i) + 1}, Kind: api.Delete, Path: fmt.Sprintf("%06d/%s/%s", i, strings.Repeat("x", 80), strings.Repeat("y", 83-cut))}
		if i > 0 {
			e.Deps = api.Vec{{Replica: 0, Seq: int64(i)}}
		}
		b.Events = append(b.Events, e)
	}
	b.Know = api.Vec{{Replica: 0, Seq: int64(count)}}
	b.Acks[0] = b.Know
	return b
}

// TestP17_2LongManifest has manifests as long as an archive can be, and longer, without any blob.
func TestP17_2LongManifest(t *testing.T) {
	const count = 22000
	over := len(plainManifest(deletes(count, 0), 2)) - 1<<22
	tells(t, len(plainManifest(deletes(count, over), 2)), 1<<22, "how long the manifest is")
	encodes(t, deletes(count, over+1), 2, api.OK)
	encodes(t, deletes(count, over), 2, api.OK)
	encodes(t, deletes(count, over-1), 2, api.ErrFull)
	encodes(t, deletes(2*count, 0), 2, api.ErrFull)
}

// TestP17_2DecodeFiles has archives of other files than a bundle's.
func TestP17_2DecodeFiles(t *testing.T) {
	whole3 := filesOf(whole(), 3)
	tells(t, decodedAsPlain(t, archive(t, whole3)), true, "whether it is decoded as it is")
	extra := []api.File{{Path: "manifest2", Data: whole3[0].Data}, {Path: "blob/a", Data: []byte("a")}, {Path: "blob/" + figures([]byte("z")), Data: []byte("z")}, {Path: "a"}, {Path: "blob"}, {Path: "own", Data: []byte("x")}}
	for i := range whole3 {
		without := slices.Delete(slices.Clone(whole3), i, i+1)
		noArchive(t, archive(t, without))
		for j := range len(without) + 1 {
			moved := slices.Insert(slices.Clone(without), j, whole3[i])
			tells(t, decodedAsPlain(t, archive(t, moved)), i == j, "whether it is decoded with the file %d at %d", i, j)
		}
		for _, f := range extra {
			noArchive(t, archive(t, slices.Insert(slices.Clone(whole3), i, f)))
			noArchive(t, archive(t, slices.Insert(slices.Clone(without), i, f)))
		}
		for j := range whole3 {
			changed := slices.Clone(whole3)
			changed[i].Data = whole3[j].Data
			tells(t, decodedAsPlain(t, archive(t, changed)), i == j, "whether it is decoded with the bytes of %d in %d", j, i)
			changed = slices.Clone(whole3)
			changed[i].Path, changed[j].Path = changed[j].Path, changed[i].Path
			tells(t, decodedAsPlain(t, archive(t, changed)), i == j, "whether it is decoded with the paths of %d and %d turned", i, j)
		}
		path := whole3[i].Path
		for _, other := range []string{"./" + path, "a/" + path, path + "a", path + "/a", path[1:], path[:len(path)-1], strings.ToUpper(path), strings.TrimPrefix(path, "blob/"), strings.Replace(path, "blob/", "blobs/", 1), strings.Replace(path, "blob/", "Blob/", 1), path[:len(path)-1] + "g", path + "~0-1"} {
			changed := slices.Clone(whole3)
			changed[i].Path = other
			if x, failed := ustar.Put(changed); failed == api.OK {
				tells(t, decodedAsPlain(t, x), other == path, "whether it is decoded with %q in place of %q", other, path)
			}
		}
		for _, data := range [][]byte{nil, append(slices.Clone(whole3[i].Data), 0), append(slices.Clone(whole3[i].Data), '\n'), append([]byte{' '}, whole3[i].Data...)} {
			changed := slices.Clone(whole3)
			changed[i].Data = data
			tells(t, decodedAsPlain(t, archive(t, changed)), bytes.Equal(data, whole3[i].Data), "whether it is decoded with %q in %d", data, i)
		}
	}
	noArchive(t, archive(t, append(slices.Clone(whole3), extra[2])))
	noArchive(t, archive(t, nil))
	noArchive(t, archive(t, []api.File{{Path: "manifest"}}))
	noArchive(t, archive(t, []api.File{{Path: "manifest"}, {Path: "blob/" + sumOf[""]}}))
	noArchive(t, archive(t, []api.File{{Path: "blob/" + sumOf[""]}}))
	noArchive(t, archive(t, []api.File{{Path: "Manifest", Data: []byte(plainManifest(gone(), 2))}}))
	noArchive(t, archive(t, []api.File{{Path: "a/manifest", Data: []byte(plainManifest(gone(), 2))}}))
}

// TestP17_2DecodeBlobs has archives whose manifests are some, but whose blobs aren't those of their puts.
func TestP17_2DecodeBlobs(t *testing.T) {
	list := func(texts ...string) []api.File {
		var l []api.File
		for _, text := range texts {
			l = append(l, api.File{Path: "blob/" + figures([]byte(text)), Data: []byte(text)})
		}
		return l
	}
	b := puts(1, 2, 3)
	order := []string{string(b.Blobs[0]), string(b.Blobs[1]), string(b.Blobs[2])}
	manifest := api.File{Path: "manifest", Data: []byte(plainManifest(b, 1))}
	for _, c := range []struct {
		texts []string
		want  bool
	}{
		{order, true},
		{nil, false},
		{order[:1], false},
		{order[:2], false},
		{order[1:], false},
		{[]string{order[0], order[2]}, false},
		{[]string{order[0], order[2], order[1]}, false},
		{[]string{order[1], order[0], order[2]}, false},
		{[]string{order[2], order[1], order[0]}, false},
		{append(slices.Clone(order), ""), false},
		{append([]string{""}, order...), false},
		{append([]string{"z"}, order[1:]...), false},
	} {
		tells(t, decodedAsPlain(t, archive(t, append([]api.File{manifest}, list(c.texts...)...))), c.want, "whether it is decoded with %q", c.texts)
	}
	// Of two sizes of one digest none can be the other's.
	b = puts(3, 3)
	b.Events[1].Sum = b.Events[0].Sum
	b.Events[1].Size = 4
	for _, texts := range [][]string{nil, {"000"}, {"001"}, {"0000"}} {
		noArchive(t, archive(t, append([]api.File{{Path: "manifest", Data: []byte(plainManifest(b, 1))}}, list(texts...)...)))
	}
	// A digest of no content that stands there, under its own name or not.
	b = one()
	b.Events[0].Sum = api.Digest{}
	manifest.Data = []byte(plainManifest(b, 1))
	isRead(t, string(manifest.Data), b, 1)
	noArchive(t, archive(t, []api.File{manifest, {Path: "blob/" + strings.Repeat("0", 64), Data: []byte("x")}}))
	noArchive(t, archive(t, append([]api.File{manifest}, list("x")...)))
	// Blobs of a bundle that puts nothing.
	noArchive(t, archive(t, append(filesOf(gone(), 2), list("")...)))
	noArchive(t, archive(t, append(filesOf(bare(0, -1, 1), 1), list("x")...)))
}

// TestP17_2DecodeAnyByte has other bytes at each place of archives.
func TestP17_2DecodeAnyByte(t *testing.T) {
	b := one()
	b.Acks = []api.Vec{v("0:1"), v("0:1")}
	x := archive(t, filesOf(b, 2))
	tells(t, decodedAsPlain(t, x), true, "whether it is decoded as it is")
	count := 0
	for i, was := range x {
		for _, other := range []byte{0, 1, ' ', '\n', '0', '1', '2', 'a', was ^ 1, was ^ 128, was + 1, was - 1} {
			x[i] = other
			if other != was && decodedAsPlain(t, x) {
				count++
			}
		}
		x[i] = was
	}
	// What 1 knows, and the id, may be others; what else is told hangs together.
	if count < 5 || count > 40 {
		t.Errorf("%d others were archives", count)
	}
}

func TestP17_2DecodeWrong(t *testing.T) {
	noArchive(t, nil)
	for _, n := range []int{1, 511, 512, 513, 1024, 1536, 1 << 20, 1 << 23} {
		for _, c := range []byte{0, '\n', 'b', 255} {
			noArchive(t, bytes.Repeat([]byte{c}, n))
		}
	}
	for _, b := range []api.Bundle{gone(), whole()} {
		noArchive(t, []byte(plainManifest(b, len(b.Acks))))
		x := archive(t, filesOf(b, len(b.Acks)))
		// An archive that others write of the same files is another one.
		var others bytes.Buffer
		w := tar.NewWriter(&others)
		for _, f := range filesOf(b, len(b.Acks)) {
			w.WriteHeader(&tar.Header{Name: f.Path, Mode: 0o600, Size: int64(len(f.Data))})
			w.Write(f.Data)
		}
		w.Close()
		noArchive(t, others.Bytes())
		for i := 1; i < len(x); i++ {
			noArchive(t, x[i:])
		}
	}
}

var names = []string{"a", "a-b", "a/b", "a/b/c", "b"}

// past is the events of a history, their puts' contents, and what each of its replicas knows.
type past struct {
	events   []api.Event
	contents [][]byte
	known    []api.Vec
}

// history is the past of so many replicas: each makes some of what it knows, and they tell each other all they know.
func history(t *testing.T, c *chain, replicas, steps int) past {
	t.Helper()
	p := past{known: make([]api.Vec, replicas)}
	for range steps {
		r, other := c.below(replicas), c.below(replicas)
		if c.below(3) == 0 {
			p.known[r] = vec.Join(p.known[r], p.known[other])
			continue
		}
		data := fmt.Appendf(nil, "%0*d", c.below(4), c.below(20))
		e := api.Event{Dot: api.Dot{Replica: r, Seq: vec.Get(p.known[r], r) + 1}, Deps: p.known[r], Kind: api.Put, Path: of(c, names), Sum: sha256.Sum256(data), Size: len(data)}
		if c.below(3) == 0 {
			e.Kind, e.Sum, e.Size = api.Delete, api.Digest{}, 0
		} else {
			p.contents = append(p.contents, data)
		}
		tells(t, event.May(e), true, "event.May(%v)", e)
		p.known[r] = vec.With(p.known[r], e.Dot)
		p.events = append(p.events, e)
	}
	return p
}

// bundle is what a replica tells of its past.
func (p past) bundle(t *testing.T, c *chain) api.Bundle {
	t.Helper()
	n := len(p.known)
	b := api.Bundle{From: c.below(n), Id: 1 + int64(c.below(99))}
	if b.To = c.below(n); b.To == b.From {
		b.To = -1
	}
	b.Know = p.known[b.From]
	b.Events = heads.Join(nil, slices.DeleteFunc(slices.Clone(p.events), func(e api.Event) bool { return !vec.Has(b.Know, e.Dot) }))
	for replica := range p.known {
		b.Acks = append(b.Acks, vec.Meet(p.known[replica], of(c, p.known)))
	}
	b.Acks[b.From] = slices.Clone(b.Know)
	b.Base = vec.Meet(b.Know, of(c, p.known))
	if c.below(2) == 0 {
		b.Base = nil
	}
	made, failed := bundle.Make(b, p.contents, n)
	tells(t, failed, api.OK, "the error of bundle.Make(%s)", told(b))
	return made
}

// TestP17_3ThereAndBack has what replicas of histories tell: all is decoded as it was, and no two have one archive, nor one that the other begins with.
func TestP17_3ThereAndBack(t *testing.T) {
	c := chain(191)
	events, contents := 0, 0
	archives := map[string]string{}
	for i := range 600 {
		n := 1 + c.below(6)
		if i < 32 {
			n = i + 1
		}
		b := history(t, &c, n, 4+c.below(40)).bundle(t, &c)
		thereAndBack(t, b, n)
		x, _ := Encode(b, n)
		what := fmt.Sprintf("%d %s", n, told(b))
		other, there := archives[string(x)]
		tells(t, !there || other == what, true, "whether %s and %s have archives of their own", other, what)
		archives[string(x)] = what
		events, contents = events+len(b.Events), contents+len(b.Blobs)
	}
	if events < 1000 || contents < 500 {
		t.Errorf("too few of a kind: %d, %d", events, contents)
	}
	var all []string
	for x := range archives {
		all = append(all, x)
	}
	sort.Strings(all)
	for i := range all[1:] {
		// In this order a beginning stands right ahead of what goes on behind it.
		tells(t, strings.HasPrefix(all[i+1], all[i]), false, "whether an archive goes on behind another one")
	}
}

// TestP17_3Begin has all beginnings of manifests and archives: of manifests some are others', which tell less; of archives none is.
func TestP17_3Begin(t *testing.T) {
	for n, b := range map[int]api.Bundle{1: puts(0, 1, 600, 2), 2: gone(), 3: whole(), 4: bare(3, -1, 4)} {
		x, failed := Encode(b, n)
		tells(t, failed, api.OK, "the error of Encode(%s, %d)", told(b), n)
		for i := range x {
			noArchive(t, x[:i])
		}
		s, _ := Manifest(b, n)
		for i := range s {
			if got, _, failed := Read(s[:i]); failed == api.OK && (len(got.Events) >= len(b.Events) || s[i-1] != '\n') {
				t.Fatalf("the first %d bytes of %q are read as %s", i, s, told(got))
			}
			readAsPlain(t, s[:i])
		}
	}
}

// TestP17_3Behind has archives with something behind them: none is one.
func TestP17_3Behind(t *testing.T) {
	bundles := map[int]api.Bundle{1: puts(0, 1, 600, 2), 2: gone(), 3: whole(), 4: bare(3, -1, 4)}
	for n, b := range bundles {
		x, failed := Encode(b, n)
		tells(t, failed, api.OK, "the error of Encode(%s, %d)", told(b), n)
		x = slices.Clip(x)
		for c := range 256 {
			noArchive(t, append(x, byte(c)))
		}
		for _, more := range []int{2, 511, 512, 513, 1023, 1024, 1025, 2048, 10240} {
			noArchive(t, append(x, make([]byte, more)...))
		}
		for m, other := range bundles {
			noArchive(t, append(x, archive(t, filesOf(other, m))...))
			// Without the end between, too, for that is another bundle's manifest at the place of a blob, or there twice.
			noArchive(t, append(slices.Clip(x[:len(x)-1024]), archive(t, filesOf(other, m))...))
		}
		s, _ := Manifest(b, n)
		for c := range 256 {
			noManifest(t, s+string([]byte{byte(c)}))
		}
		for _, more := range []string{"\n\n", " \n", "\x00\x00", "bindle 1\n", "del\n", "base -\n", s} {
			noManifest(t, s+more)
		}
	}
}

// turnVector turns something of v.
func turnVector(c *chain, v api.Vec) api.Vec {
	v = slices.Clone(v)
	odd := api.Dot{Replica: c.below(8) - 1, Seq: int64(c.below(6)) - 1}
	switch {
	case len(v) == 0 || c.below(4) == 0:
		return slices.Insert(v, c.below(len(v)+1), odd)
	case c.below(3) == 0:
		i := c.below(len(v))
		return slices.Delete(v, i, i+1)
	case c.below(8) == 0:
		v[c.below(len(v))] = odd
	default:
		v[c.below(len(v))].Seq += int64(c.below(3)) - 1
	}
	return v
}

// turnEvent turns something of e.
func turnEvent(c *chain, e api.Event) api.Event {
	switch c.below(7) {
	case 0:
		e.Dot.Seq += int64(c.below(3)) - 1
	case 1:
		e.Dot.Replica = c.below(8) - 1
	case 2:
		e.Deps = turnVector(c, e.Deps)
	case 3:
		e.Kind = c.below(4)
	case 4:
		e.Path = of(c, append(names, "", "a~0-1", "a b", "a\n"))
	case 5:
		e.Sum[c.below(32)] ^= byte(c.below(2))
	case 6:
		e.Size += c.below(3) - 1
	}
	return e
}

// turnList turns something of l, one of which is turned by turn.
func turnList[T any](c *chain, l []T, turn func(c *chain, item T) T) []T {
	l = slices.Clone(l)
	if len(l) == 0 {
		return l
	}
	i, j := c.below(len(l)), c.below(len(l))
	switch c.below(5) {
	case 0:
		l[i], l[j] = l[j], l[i]
	case 1:
		l = slices.Delete(l, i, i+1)
	case 2:
		l = slices.Insert(l, i, l[j])
	default:
		l[i] = turn(c, l[i])
	}
	return l
}

// turnBlob turns something of blob.
func turnBlob(c *chain, blob []byte) []byte {
	return append(slices.Clone(blob), byte(c.below(256)))
}

// turnBundle turns something of b.
func turnBundle(c *chain, b api.Bundle) api.Bundle {
	switch c.below(9) {
	case 0:
		b.From = c.below(8) - 1
	case 1:
		b.To = c.below(9) - 2
	case 2:
		b.Id = int64(c.below(3))
	case 3:
		b.Base = turnVector(c, b.Base)
	case 4:
		b.Know = turnVector(c, b.Know)
		if c.below(2) == 0 && b.From >= 0 && b.From < len(b.Acks) {
			b.Acks = slices.Clone(b.Acks)
			b.Acks[b.From] = slices.Clone(b.Know)
		}
	case 5, 6:
		b.Events = turnList(c, b.Events, turnEvent)
	case 7:
		b.Acks = turnList(c, b.Acks, turnVector)
	case 8:
		b.Blobs = turnList(c, b.Blobs, turnBlob)
	}
	return b
}

// TestP17Turned has bundles of histories of which something, or some things, are turned: all calls tell what the chapter's words have.
func TestP17Turned(t *testing.T) {
	c := chain(193)
	errors, manifests, archives := map[api.Errno]int{}, map[bool]int{}, map[bool]int{}
	for range 800 {
		n := 1 + c.below(6)
		p := history(t, &c, n, 4+c.below(20))
		made := p.bundle(t, &c)
		for range 5 {
			b := made
			for range 1 + c.below(3) {
				b = turnBundle(&c, b)
			}
			if c.below(9) == 0 {
				n += c.below(3) - 1
			}
			errors[laidAsPlain(t, b, n)]++
			manifests[readAsPlain(t, plainManifest(b, n))]++
			if x, failed := ustar.Put(filesOf(b, n)); failed == api.OK {
				archives[decodedAsPlain(t, x)]++
			}
		}
	}
	if errors[api.OK] < 300 || errors[api.ErrArg] < 1000 || manifests[true] < 300 || manifests[false] < 1000 || archives[true] < 300 || archives[false] < 1000 || manifests[true] <= archives[true] {
		t.Errorf("too few of a kind: %v, %v, %v", errors, manifests, archives)
	}
}

// TestP17TurnedTexts has manifests of histories of which words or lines are turned.
func TestP17TurnedTexts(t *testing.T) {
	c := chain(197)
	kinds := map[bool]int{}
	turnWord := func(c *chain, word string) string {
		return of(c, []string{"", "0", "1", "2", "-", "-1", "0:1", "1:1", "0:2", "-;-", "a", "b", "put", "del", word + " ", word + "0", "0" + word, word + ",", strings.ToUpper(word)})
	}
	for range 3000 {
		n := 1 + c.below(3)
		s := plainManifest(history(t, &c, n, 2+c.below(9)).bundle(t, &c), n)
		if c.below(3) == 0 {
			s = strings.Join(turnList(&c, strings.SplitAfter(s, "\n"), func(c *chain, line string) string { return line + of(c, []string{"", "\n", " ", line}) }), "")
		} else {
			lines := strings.SplitAfter(s, "\n")
			i := c.below(len(lines))
			lines[i] = strings.Join(turnList(&c, strings.Split(lines[i], " "), turnWord), " ")
			s = strings.Join(lines, "")
		}
		kinds[readAsPlain(t, s)]++
	}
	if kinds[true] < 100 || kinds[false] < 1000 {
		t.Errorf("too few of a kind: %v", kinds)
	}
}

// TestR2NilAndEmpty holds that nothing is nothing, whichever way.
func TestR2NilAndEmpty(t *testing.T) {
	full := whole()
	vectors := []api.Vec{nil, {}, make(api.Vec, 0, 9), full.Know[:0]}
	lists := [][]api.Event{nil, {}, make([]api.Event, 0, 9), full.Events[:0]}
	contents := [][][]byte{nil, {}, make([][]byte, 0, 9), full.Blobs[:0]}
	for i := range vectors {
		b := api.Bundle{To: -1, Id: 1, Base: vectors[i], Know: vectors[(i+1)%4], Events: lists[i], Acks: []api.Vec{vectors[(i+2)%4]}, Blobs: contents[i]}
		thereAndBack(t, b, 1)
		tells(t, laidAsPlain(t, b, 1), api.OK, "the error of Encode of nothing")
		b = one()
		b.Base, b.Events[0].Deps = vectors[i], vectors[(i+1)%4]
		thereAndBack(t, b, 1)
	}
	for _, data := range [][]byte{nil, {}, make([]byte, 0, 9), []byte("x")[:0]} {
		b := one()
		b.Events[0], b.Blobs = put(0, 1, "-", "a", ""), [][]byte{data}
		thereAndBack(t, b, 1)
	}
	noManifest(t, "")
	noArchive(t, nil)
	noArchive(t, []byte{})
}

// roomyList is l with room behind it in which more stands.
func roomyList[T any](l []T, more ...T) []T {
	return append(slices.Clone(l), more...)[:len(l)]
}

// roomy is b with room behind each of its lists in which more stands.
func roomy(b api.Bundle) api.Bundle {
	d := api.Dot{Replica: 5, Seq: 5}
	b.Base, b.Know = roomyList(b.Base, d, d), roomyList(b.Know, d, d)
	b.Events = roomyList(b.Events, del(9, 1, "-", "behind"))
	for i, e := range b.Events {
		b.Events[i].Deps = roomyList(e.Deps, d)
	}
	b.Acks = roomyList(b.Acks, v("0:77"))
	for i, row := range b.Acks {
		b.Acks[i] = roomyList(row, d)
	}
	b.Blobs = roomyList(b.Blobs, []byte("behind"))
	for i, blob := range b.Blobs {
		b.Blobs[i] = roomyList(blob, []byte("more")...)
	}
	return b
}

// allOf is all of b, room included.
func allOf(b api.Bundle) string {
	room := b
	room.Base, room.Know = b.Base[:cap(b.Base)], b.Know[:cap(b.Know)]
	room.Events = slices.Clone(b.Events[:cap(b.Events)])
	for i, e := range room.Events {
		room.Events[i].Deps = e.Deps[:cap(e.Deps)]
	}
	room.Acks = slices.Clone(b.Acks[:cap(b.Acks)])
	for i, row := range room.Acks {
		room.Acks[i] = row[:cap(row)]
	}
	room.Blobs = slices.Clone(b.Blobs[:cap(b.Blobs)])
	for i, blob := range room.Blobs {
		room.Blobs[i] = blob[:cap(blob)]
	}
	return told(room)
}

// spoilVector changes all of v, room included.
func spoilVector(v api.Vec) {
	for i := range v[:cap(v)] {
		v[:cap(v)][i] = api.Dot{Replica: -9, Seq: -9}
	}
}

// spoilBytes changes all of x, room included.
func spoilBytes(x []byte) {
	for i := range x[:cap(x)] {
		x[:cap(x)][i] ^= 255
	}
}

// spoil changes all of b, room included.
func spoil(b api.Bundle) {
	spoilVector(b.Base)
	spoilVector(b.Know)
	for _, e := range b.Events {
		spoilVector(e.Deps)
	}
	clear(b.Events[:cap(b.Events)])
	for _, row := range b.Acks {
		spoilVector(row)
	}
	clear(b.Acks[:cap(b.Acks)])
	for _, blob := range b.Blobs {
		spoilBytes(blob)
	}
	clear(b.Blobs[:cap(b.Blobs)])
}

// TestR3NothingChanged holds that what is handed in stays as it is, room behind included.
func TestR3NothingChanged(t *testing.T) {
	for _, n := range []int{3, 2} {
		b := roomy(whole())
		was := allOf(b)
		Manifest(b, n)
		Encode(b, n)
		tells(t, allOf(b), was, "what was handed in")
		for _, x := range [][]byte{archive(t, filesOf(whole(), 3)), []byte(plainManifest(whole(), 3)), archive(t, filesOf(whole(), 4))} {
			x = roomyList(x, []byte("behind")...)
			was := string(x[:cap(x)])
			Decode(x)
			tells(t, string(x[:cap(x)]), was, "what was handed to Decode")
		}
	}
}

// TestR3NothingShared holds that spoiling what is told changes nothing else, and that spoiling what was handed in changes nothing told.
func TestR3NothingShared(t *testing.T) {
	b := roomy(whole())
	was := allOf(b)
	want := string(archive(t, filesOf(whole(), 3)))
	x, _ := Encode(b, 3)
	kept, _ := Encode(b, 3)
	s, _ := Manifest(b, 3)
	spoilBytes(x)
	tells(t, allOf(b), was, "what was handed in, with Encode's answer spoilt")
	spoil(b)
	tells(t, string(kept), want, "Encode's answer, with what was handed in spoilt")
	tells(t, s, plainManifest(whole(), 3), "Manifest's answer, with what was handed in spoilt")

	decoded, _, _ := Decode(kept)
	keptBundle, _, _ := Decode(kept)
	spoil(decoded)
	tells(t, string(kept), want, "what was handed in, with Decode's answer spoilt")
	tells(t, told(keptBundle), told(whole()), "Decode's answer, with another one spoilt")
	spoilBytes(kept)
	tells(t, told(keptBundle), told(whole()), "Decode's answer, with what was handed in spoilt")

	read, _, _ := Read(s)
	keptRead, _, _ := Read(s)
	spoil(read)
	isRead(t, s, whole(), 3)
	keptRead.Blobs = whole().Blobs
	tells(t, told(keptRead), told(whole()), "Read's answer, with another one spoilt")
}

// TestR3ListsApart holds that no two lists of one answer are shared.
func TestR3ListsApart(t *testing.T) {
	x := archive(t, filesOf(whole(), 3))
	lists := func(b api.Bundle) []*api.Dot {
		var begins []*api.Dot
		for _, v := range append([]api.Vec{b.Base, b.Know}, b.Acks...) {
			begins = append(begins, &v[0])
		}
		for _, e := range b.Events {
			if len(e.Deps) > 0 {
				begins = append(begins, &e.Deps[0])
			}
		}
		return begins
	}
	decoded, _, _ := Decode(x)
	read, _, _ := Read(plainManifest(whole(), 3))
	for _, b := range []api.Bundle{decoded, read} {
		seen := map[*api.Dot]bool{}
		for _, begin := range lists(b) {
			tells(t, seen[begin], false, "whether a list was seen before")
			seen[begin] = true
		}
		tells(t, len(seen), 9, "the count of lists that aren't empty")
	}
	for i := range decoded.Blobs {
		_ = append(decoded.Blobs[i], "more"...)
		for j := range decoded.Blobs[i] {
			decoded.Blobs[i][j] ^= 255
		}
		for j := range decoded.Blobs[i] {
			decoded.Blobs[i][j] ^= 255
		}
		tells(t, told(decoded), told(whole()), "what is decoded, with a blob spoilt and put back")
	}
	for i := range decoded.Acks {
		_ = append(decoded.Acks[i], api.Dot{Replica: -9, Seq: -9})
	}
	for _, e := range decoded.Events {
		_ = append(e.Deps, api.Dot{Replica: -9, Seq: -9})
	}
	tells(t, told(decoded), told(whole()), "what is decoded, with more behind its lists")
}

// TestR4SameAgain holds that what is told is the same each time.
func TestR4SameAgain(t *testing.T) {
	c := chain(199)
	b := history(t, &c, 5, 300).bundle(t, &c)
	x, failed := Encode(b, 5)
	tells(t, failed, api.OK, "the error of Encode")
	for range 30 {
		again, _ := Encode(b, 5)
		tells(t, string(again), string(x), "Encode again")
		isDecoded(t, x, b, 5)
	}
}

// TestP1Many has more lines, words and rows than any manifest, and longer ones: calls end, and soon.
func TestP1Many(t *testing.T) {
	const n = 1 << 20
	head := "bindle 2\nfrom 1 0 3\nbase -\nknow 1:1\nacks -;1:1\n"
	line := "del 1:1 - a\n"
	for _, s := range []string{
		strings.Repeat("\n", n), strings.Repeat(" ", n), strings.Repeat("x", n), strings.Repeat(head, n/64), head + strings.Repeat("\n", n), head + strings.Repeat(line, n/8), head + line + strings.Repeat(" ", n), head + line[:len(line)-1] + strings.Repeat("a", n) + "\n", head + line[:8] + strings.Repeat(" ", n) + line[8:],
		strings.Replace(head, "2", strings.Repeat("2", n), 1), strings.Replace(head, "2", "2"+strings.Repeat(" ", n), 1), strings.Replace(head, "1 0 3", strings.Repeat("1 ", n)+"3", 1), strings.Replace(head, "1 0 3", "1 0 "+strings.Repeat("3", n), 1), strings.Replace(head, "base -", "base 0:1"+strings.Repeat(",0:1", n), 1), strings.Replace(head, "base -", "base "+strings.Repeat("-", n), 1), strings.Replace(head, "-;1:1", "-;1:1"+strings.Repeat(";-", n), 1), strings.Replace(head, "-;1:1", strings.Repeat(";", n), 1),
	} {
		noManifest(t, s)
		noManifest(t, s+line)
		noArchive(t, []byte(s))
		noArchive(t, archive(t, []api.File{{Path: "manifest", Data: []byte(s)[:min(len(s), 1<<22)]}}))
	}
	b := whole()
	b.Base = slices.Repeat(b.Base, n)
	notLaid := func(b api.Bundle) {
		t.Helper()
		s, failed := Manifest(b, 3)
		x, failedX := Encode(b, 3)
		tells(t, failed, api.ErrArg, "the error of Manifest of many")
		tells(t, failedX, api.ErrArg, "the error of Encode of many")
		tells(t, len(s)+len(x), 0, "how many bytes there are beside an error")
	}
	notLaid(b)
	b = whole()
	b.Events = slices.Repeat(b.Events, n/16)
	notLaid(b)
	b = whole()
	b.Acks = slices.Repeat(b.Acks, n)
	notLaid(b)
	b = whole()
	b.Blobs = slices.Repeat(b.Blobs, n)
	notLaid(b)
	b = whole()
	b.Events[0].Path = strings.Repeat("a/", n)
	notLaid(b)
}
