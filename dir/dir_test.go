package dir

import (
	"fmt"
	"maps"
	"math"
	"math/rand"
	"slices"
	"strings"
	"testing"
	"unicode/utf8"

	"lazaret/api"
	"lazaret/dev"
	"lazaret/inode"
	"lazaret/wal"
)

var none = api.Label{}

func device(t testing.TB, sectors int) *dev.Device {
	t.Helper()
	d, e := dev.New(300 + sectors)
	must(t, e)
	return d
}

func opened(t testing.TB, d *dev.Device) (*inode.Base, *wal.Store) {
	t.Helper()
	s, e := wal.Open(d)
	must(t, e)
	b, e := inode.Open(s)
	must(t, e)
	return b, s
}

// fresh is a Base with one folder, node 1, that has that room.
func fresh(t testing.TB, room int) (*inode.Base, *wal.Store) {
	t.Helper()
	b, s := opened(t, device(t, 500))
	makes(t, b, api.KFolder, room, 1)
	return b, s
}

func makes(t testing.TB, b *inode.Base, kind, room, want int) {
	t.Helper()
	if n, e := b.Make(kind, none, room); n != want || e != api.OK {
		t.Fatal("Make", n, e, "not", want)
	}
}

func must(t testing.TB, e api.Errno) {
	t.Helper()
	if e != api.OK {
		t.Fatal(e)
	}
}

func is(t testing.TB, e, want api.Errno) {
	t.Helper()
	if e != want {
		t.Fatal(e, "not", want)
	}
}

func adds(t testing.TB, b *inode.Base, n int, names ...string) {
	t.Helper()
	for i, name := range names {
		if e := Add(b, n, name, i+1); e != api.OK {
			t.Fatalf("Add %q: %v", name, e)
		}
	}
}

// holds is whether folder n tells just those entries, by List and by Find.
func holds(t testing.TB, b *inode.Base, n int, want ...api.Entry) {
	t.Helper()
	l, e := List(b, n)
	if e != api.OK || !slices.Equal(l, want) {
		t.Fatal("List", n, l, e, "not", want)
	}
	for _, x := range want {
		if m, e := Find(b, n, x.Name); m != x.Node || e != api.OK {
			t.Fatalf("Find %q: %d %v not %d", x.Name, m, e, x.Node)
		}
	}
}

// sets makes text the bytes of node n.
func sets(t testing.TB, b *inode.Base, n int, text string) {
	t.Helper()
	must(t, b.Cut(n, 0))
	must(t, b.Write(n, 0, []byte(text)))
}

func bytesOf(t testing.TB, b *inode.Base, n int) string {
	t.Helper()
	text, e := b.Read(n, 0, math.MaxInt)
	must(t, e)
	return string(text)
}

// every asks all that may be asked of a folder, and that each call answers want, with nothing beside it, and changes nothing.
func every(t testing.TB, b *inode.Base, n int, name string, m int, want api.Errno) {
	t.Helper()
	before, _ := b.Read(n, 0, math.MaxInt)
	if l, e := List(b, n); l != nil || e != want {
		t.Error("List", n, l, e, "not", want)
	}
	if k, e := Find(b, n, name); k != 0 || e != want {
		t.Error("Find", n, name, k, e, "not", want)
	}
	if e := Add(b, n, name, m); e != want {
		t.Error("Add", n, name, m, e, "not", want)
	}
	if e := Del(b, n, name); e != want {
		t.Error("Del", n, name, e, "not", want)
	}
	if after, _ := b.Read(n, 0, math.MaxInt); string(after) != string(before) {
		t.Error("changed", n)
	}
}

// Promise 7.1.

func TestName(t *testing.T) {
	for _, s := range []string{
		"a", "...", ".a", "..a", "a.", "a..", "....", "a b", " ", "~", "a\\b", "\"", "-", "\u0080", "\u009f", "é", "€", "\ufffd", "a\ufffdb", "\U0010ffff", "\u2028",
		strings.Repeat("x", 24), strings.Repeat("é", 12), strings.Repeat("€", 8), strings.Repeat("\U0001f600", 6), strings.Repeat(".", 24),
	} {
		if !Name(s) {
			t.Errorf("%q is a Name", s)
		}
	}
	for _, s := range []string{
		"", ".", "..", "/", "a/b", "/a", "a/", "./", "\x00", "a\x00", "\x1f", "a\nb", "\t", "\x7f", "a\x7f", "\x7fa",
		"\xff", "\x80", "a\xffb", "\xc0\xaf", "\xc0\x80", "\xed\xa0\x80", "\xf4\x90\x80\x80", "\xe2\x82", "a\xc3", "\xc3", "\xa9",
		strings.Repeat("x", 25), strings.Repeat("é", 12) + "x", strings.Repeat("é", 13), strings.Repeat("€", 8) + "x", strings.Repeat("x", 1<<20),
		strings.Repeat("x", 23) + "/", strings.Repeat("x", 23) + "\xc3", strings.Repeat("x", 23) + "é",
	} {
		if Name(s) {
			t.Errorf("%.50q is no Name", s)
		}
	}
}

// TestNameAllBytes: each byte, and each pair of bytes, at the beginning of a text and behind it.
func TestNameAllBytes(t *testing.T) {
	bad := func(c byte) bool { return c < 32 || c == '/' || c == 127 }
	for i := range 1 << 16 {
		c, d := byte(i>>8), byte(i)
		if s := string([]byte{c}); Name(s) != (c < 128 && !bad(c) && c != '.') {
			t.Errorf("%q", s)
		}
		s := string([]byte{c, d})
		want := utf8.ValidString(s) && !bad(c) && !bad(d)
		if Name(s) != (want && s != "..") || Name("a"+s) != want || Name("é"+s+"b") != want {
			t.Errorf("%q", s)
		}
	}
}

func TestSplit(t *testing.T) {
	x := strings.Repeat("x", 24)
	for path, want := range map[string][]string{
		"/":                             {},
		"/a":                            {"a"},
		"/a/b":                          {"a", "b"},
		"/a b/é/...":                    {"a b", "é", "..."},
		"/\ufffd":                       {"\ufffd"},
		"/a/a/a":                        {"a", "a", "a"},
		"/1/2/3/4/5/6/7/8":              {"1", "2", "3", "4", "5", "6", "7", "8"},
		"/" + x:                         {x},
		strings.Repeat("/"+x, 8):        {x, x, x, x, x, x, x, x},
		strings.Repeat("/é", 7):         {"é", "é", "é", "é", "é", "é", "é"},
		"/ / ":                          {" ", " "},
		"/a" + strings.Repeat("/"+x, 7): {"a", x, x, x, x, x, x, x},
	} {
		if l, e := Split(path); e != api.OK || !slices.Equal(l, want) {
			t.Errorf("%q: %q %v", path, l, e)
		}
	}
	for _, path := range []string{
		"", "a", "a/b", " /a", "./a", "../a", "\\a", "//", "///", "/a/", "/a//", "/a//b", "//a", "/a/b/", "/.", "/..", "/./a", "/a/..", "/a/./b", "/a/../b", "/\x00", "/a\n/b", "/\x7f", "/\xff", "/a/\xc3", "/\xc3/\xa9",
		"/1/2/3/4/5/6/7/8/9", "/1/2/3/4/5/6/7/8/", "/1/2/3/4/5/6/7//", "/" + x + "x", "/a/" + x + "x/b",
		strings.Repeat("/"+x, 8) + "x", strings.Repeat("/"+x, 8) + "/", strings.Repeat("/"+x, 9), strings.Repeat("/", 1<<20), "/" + strings.Repeat("x", 1<<20), strings.Repeat("/a", 1<<20),
	} {
		if l, e := Split(path); l != nil || e != api.ErrArg {
			t.Errorf("%.50q: %.50q %v", path, l, e)
		}
	}
}

// TestSplitAgain: what is told is joined to the path again, and names that are joined are told.
func TestSplitAgain(t *testing.T) {
	r := rand.New(rand.NewSource(1))
	parts := []string{"a", "bc", ".", "..", "", "é", "/", "\x1f", "\xc3", "x y", strings.Repeat("z", 24), strings.Repeat("z", 25)}
	for range 20000 {
		names := make([]string, r.Intn(11))
		good := len(names) <= 8
		for i := range names {
			names[i] = parts[r.Intn(len(parts))]
			good = good && Name(names[i])
		}
		path := "/" + strings.Join(names, "/")
		l, e := Split(path)
		switch {
		case good && (e != api.OK || !slices.Equal(l, names)):
			t.Fatalf("%q: %q %v", path, l, e)
		case e == api.OK && "/"+strings.Join(l, "/") != path:
			t.Fatalf("%q: %q", path, l)
		case e != api.OK && (l != nil || e != api.ErrArg):
			t.Fatalf("%q: %q %v", path, l, e)
		}
	}
}

// Promise 7.2.

// TestBytes: what is in a folder, byte by byte.
func TestBytes(t *testing.T) {
	b, _ := fresh(t, 20)
	holds(t, b, 1)
	for _, x := range []struct {
		add, del string
		node     int
		want     string
	}{
		{add: "m", node: 7, want: "\x01m\x07"},
		{add: "z", node: 64, want: "\x01m\x07\x01z\x40"},
		{add: "a", node: 1, want: "\x01a\x01\x01m\x07\x01z\x40"},
		// A text that is another one's beginning stands ahead, however long, and bytes count, not characters nor lengths.
		{add: "mm", node: 7, want: "\x01a\x01\x01m\x07\x02mm\x07\x01z\x40"},
		{add: "é", node: 2, want: "\x01a\x01\x01m\x07\x02mm\x07\x01z\x40\x02\xc3\xa9\x02"},
		{add: "Z", node: 3, want: "\x01Z\x03\x01a\x01\x01m\x07\x02mm\x07\x01z\x40\x02\xc3\xa9\x02"},
		{del: "mm", want: "\x01Z\x03\x01a\x01\x01m\x07\x01z\x40\x02\xc3\xa9\x02"},
		{del: "Z", want: "\x01a\x01\x01m\x07\x01z\x40\x02\xc3\xa9\x02"},
		{del: "é", want: "\x01a\x01\x01m\x07\x01z\x40"},
		{add: "...", node: 5, want: "\x03...\x05\x01a\x01\x01m\x07\x01z\x40"},
		{del: "m", want: "\x03...\x05\x01a\x01\x01z\x40"},
		{del: "...", want: "\x01a\x01\x01z\x40"},
		{del: "z", want: "\x01a\x01"},
		{del: "a", want: ""},
	} {
		if x.add != "" {
			must(t, Add(b, 1, x.add, x.node))
		} else {
			must(t, Del(b, 1, x.del))
		}
		if got := bytesOf(t, b, 1); got != x.want {
			t.Fatalf("%+v: %q", x, got)
		}
	}
	if f, all := b.Blocks(); f != all {
		t.Error("an empty folder has blocks")
	}
}

// TestReads: what a folder's bytes tell, whoever wrote them.
func TestReads(t *testing.T) {
	b, _ := fresh(t, 20)
	x, y := strings.Repeat("x", 24), strings.Repeat("x", 23)+"y"
	for text, want := range map[string][]api.Entry{
		"":                                   {},
		"\x01a\x01":                          {{Name: "a", Node: 1}},
		"\x01a\x40\x02aa\x40":                {{Name: "a", Node: 64}, {Name: "aa", Node: 64}},
		"\x18" + x + "\x02\x18" + y + "\x01": {{Name: x, Node: 2}, {Name: y, Node: 1}},
		"\x02\xc3\xa9\x05\x04\xf0\x9f\x98\x80\x06": {{Name: "é", Node: 5}, {Name: "\U0001f600", Node: 6}},
	} {
		sets(t, b, 1, text)
		holds(t, b, 1, want...)
	}
}

// manyBytes is a folder's bytes with k entries.
func manyBytes(k int) string {
	text := ""
	for i := range k {
		text += fmt.Sprintf("\x04n%03d%c", i, 1+i%64)
	}
	return text
}

func TestNoFolderBytes(t *testing.T) {
	b, _ := fresh(t, 256)
	x := strings.Repeat("x", 25)
	for _, text := range []string{
		"x", "\x00", "\x01", "\x01a", "\x02a\x01", "\x00\x01", "\x00\x00", "\x01a\x00", "\x01a\x41", "\x01a\xff",
		"\x01/\x01", "\x01.\x01", "\x02..\x01", "\x01\x1f\x01", "\x01\x7f\x01", "\x01\xff\x01", "\x01\xc3\x01\x01\xa9\x01", "\x02\xc0\xaf\x01",
		"\x19" + x + "\x01", "\x19" + x, "\xff" + strings.Repeat("x", 255) + "\x01",
		"\x01b\x01\x01a\x01", "\x01a\x01\x01a\x01", "\x01a\x01\x01a\x02", "\x02aa\x01\x01a\x01", "\x02\xc3\xa9\x01\x01z\x01", "\x01a\x01\x01c\x01\x01b\x01",
		"\x01a\x01\x00", "\x01a\x01\x01", "\x01a\x01\x01b", "\x01a\x01\x01b\x00", "\x01a\x01\x01/\x01", "\x01a\x01\x00\x00",
		manyBytes(33), manyBytes(40), manyBytes(500), strings.Repeat("\x00", 6000), strings.Repeat("\x01a\x01", 2000),
	} {
		sets(t, b, 1, text)
		// The bytes count ahead of name and node.
		for _, name := range []string{"a", "", "/", "n001", "zz"} {
			for _, m := range []int{1, 0, 65} {
				every(t, b, 1, name, m, api.ErrForm)
			}
		}
	}
	sets(t, b, 1, manyBytes(32))
	if l, e := List(b, 1); len(l) != 32 || e != api.OK {
		t.Error(len(l), e)
	}
}

// TestChangedBytes: of a good folder each beginning, and each byte changed to each other one: the entries tell the bytes again, or it is none.
func TestChangedBytes(t *testing.T) {
	b, _ := fresh(t, 3)
	good := "\x02ab\x01\x01c\x40\x02\xc3\xa9\x07\x03\xe2\x82\xac\x02"
	told := 0
	check := func(text string) {
		sets(t, b, 1, text)
		l, e := List(b, 1)
		if e != api.OK {
			every(t, b, 1, "c", 1, api.ErrForm)
			return
		}
		again, last := "", ""
		for _, x := range l {
			if !Name(x.Name) || x.Name <= last || x.Node < 1 || x.Node > 64 {
				t.Fatalf("%q tells %v", text, l)
			}
			last = x.Name
			again += string(rune(len(x.Name))) + x.Name + string(rune(x.Node))
		}
		if again != text {
			t.Fatalf("%q tells %v", text, l)
		}
		told++
	}
	for end := range len(good) + 1 {
		check(good[:end])
	}
	if told != 5 {
		t.Error("of the beginnings", told, "are folders")
	}
	for i := range len(good) {
		for c := range 256 {
			text := []byte(good)
			text[i] = byte(c)
			check(string(text))
		}
	}
}

// TestErrorsInOrder: the node, its kind, its bytes, the name, the number, what is there, how many, the room.
func TestErrorsInOrder(t *testing.T) {
	b, _ := fresh(t, 20)
	makes(t, b, api.KFile, 1, 2)
	makes(t, b, api.KFolder, 0, 3)
	must(t, b.Write(2, 0, []byte("\x01a\x01")))
	for _, n := range []int{-1, 0, 4, 64, 65, math.MaxInt, math.MinInt} {
		every(t, b, n, "", 0, api.ErrNone)
		every(t, b, n, "a", 1, api.ErrNone)
	}
	every(t, b, 2, "", 0, api.ErrKind)
	every(t, b, 2, "a", 1, api.ErrKind)
	must(t, b.Write(2, 0, []byte("xxxx")))
	every(t, b, 2, "a", 1, api.ErrKind)
	sets(t, b, 1, manyBytes(32))
	for _, name := range []string{"", ".", "..", "/", "a/b", "\x00", "\xff", strings.Repeat("x", 25)} {
		for _, m := range []int{1, 0, 65} {
			is(t, Add(b, 1, name, m), api.ErrArg)
		}
		is(t, Del(b, 1, name), api.ErrArg)
		if n, e := Find(b, 1, name); n != 0 || e != api.ErrArg {
			t.Error(name, n, e)
		}
	}
	for _, m := range []int{0, 65, -1, 256, 257, math.MaxInt, math.MinInt} {
		is(t, Add(b, 1, "n003", m), api.ErrArg)
		is(t, Add(b, 1, "new", m), api.ErrArg)
		is(t, Add(b, 3, "new", m), api.ErrArg)
	}
	is(t, Add(b, 1, "n003", 4), api.ErrThere)
	is(t, Add(b, 1, "n003", 9), api.ErrThere)
	is(t, Add(b, 1, "new", 1), api.ErrMany)
	is(t, Add(b, 3, "new", 1), api.ErrRoom)
	for _, name := range []string{"new", "a", "z", "n0000", "n00", "N003"} {
		is(t, Del(b, 1, name), api.ErrNone)
		if n, e := Find(b, 1, name); n != 0 || e != api.ErrNone {
			t.Error(name, n, e)
		}
	}
	if bytesOf(t, b, 1) != manyBytes(32) || bytesOf(t, b, 3) != "" {
		t.Error("something is done")
	}
}

func TestMany(t *testing.T) {
	b, _ := fresh(t, 13)
	var want []api.Entry
	for i := range 32 {
		want = append(want, api.Entry{Name: fmt.Sprintf("%02d%s", i, strings.Repeat("x", 22)), Node: i + 1})
	}
	for _, i := range rand.New(rand.NewSource(2)).Perm(32) {
		must(t, Add(b, 1, want[i].Name, want[i].Node))
	}
	holds(t, b, 1, want...)
	// A room of 13 blocks is enough for all that a folder may have, so it is the number of names that counts.
	is(t, Add(b, 1, "a", 1), api.ErrMany)
	is(t, Add(b, 1, want[9].Name, 1), api.ErrThere)
	must(t, Del(b, 1, want[9].Name))
	is(t, Del(b, 1, want[9].Name), api.ErrNone)
	must(t, Add(b, 1, "a", 64))
	is(t, Add(b, 1, "b", 64), api.ErrMany)
	holds(t, b, 1, append(slices.Delete(want, 9, 10), api.Entry{Name: "a", Node: 64})...)
}

// TestRoom: a folder has place for as many bytes as its room, just so many.
func TestRoom(t *testing.T) {
	b, _ := fresh(t, 1)
	x, y := strings.Repeat("x", 24), strings.Repeat("y", 24)
	adds(t, b, 1, x, y)
	is(t, Add(b, 1, strings.Repeat("z", 11), 1), api.ErrRoom)
	is(t, Add(b, 1, strings.Repeat("a", 24), 1), api.ErrRoom)
	is(t, Add(b, 1, x, 1), api.ErrThere)
	holds(t, b, 1, api.Entry{Name: x, Node: 1}, api.Entry{Name: y, Node: 2})
	must(t, Add(b, 1, strings.Repeat("a", 10), 3))
	is(t, Add(b, 1, "b", 1), api.ErrRoom)
	holds(t, b, 1, api.Entry{Name: strings.Repeat("a", 10), Node: 3}, api.Entry{Name: x, Node: 1}, api.Entry{Name: y, Node: 2})
	must(t, Del(b, 1, x))
	must(t, Add(b, 1, "b", 4))
	holds(t, b, 1, api.Entry{Name: strings.Repeat("a", 10), Node: 3}, api.Entry{Name: "b", Node: 4}, api.Entry{Name: y, Node: 2})
}

// TestFull: where no block is free a folder grows within those it has, and shrinks.
func TestFull(t *testing.T) {
	b, s := opened(t, device(t, 400))
	makes(t, b, api.KFolder, 20, 1)
	makes(t, b, api.KFolder, 20, 2)
	adds(t, b, 1, "a", strings.Repeat("m", 24), strings.Repeat("z", 24))
	for n := 3; ; n++ {
		makes(t, b, api.KFile, 27, n)
		f, _ := b.Blocks()
		if f == 0 {
			break
		}
		must(t, b.Write(n, 0, make([]byte, min(f, 27)*64)))
		must(t, s.Commit())
	}
	before := bytesOf(t, b, 1)
	is(t, Add(b, 1, "longer name", 1), api.ErrFull)
	is(t, Add(b, 1, "zz longer name", 1), api.ErrFull)
	is(t, Add(b, 2, "a", 1), api.ErrFull)
	if bytesOf(t, b, 1) != before || bytesOf(t, b, 2) != "" {
		t.Error("something is done")
	}
	must(t, Add(b, 1, "b", 9))
	must(t, Del(b, 1, "a"))
	must(t, Del(b, 1, strings.Repeat("m", 24)))
	holds(t, b, 1, api.Entry{Name: "b", Node: 9}, api.Entry{Name: strings.Repeat("z", 24), Node: 3})
}

func TestDead(t *testing.T) {
	d := device(t, 500)
	b, s := opened(t, d)
	makes(t, b, api.KFolder, 20, 1)
	adds(t, b, 1, "a")
	must(t, s.Commit())
	d.Fuse(0)
	is(t, s.Sync(), api.ErrDead)
	for _, name := range []string{"a", "b", ""} {
		if l, e := List(b, 1); l != nil || e != api.ErrDead {
			t.Error(l, e)
		}
		if n, e := Find(b, 1, name); n != 0 || e != api.ErrDead {
			t.Error(n, e)
		}
		is(t, Add(b, 1, name, 1), api.ErrDead)
		is(t, Del(b, 1, name), api.ErrDead)
	}
}

// Promise 7.3.

// TestAgainstMaps: many calls on some folders, held against maps, with Aborts, crashes and a new Open between them.
func TestAgainstMaps(t *testing.T) {
	parts := []string{"a", "b", "é", "ab", ".x", "name", "another name", strings.Repeat("y", 12)}
	for seed := range int64(8) {
		r := rand.New(rand.NewSource(seed))
		d := device(t, 500)
		b, s := opened(t, d)
		want := map[int]map[string]int{}
		for n := 1; n <= 3; n++ {
			makes(t, b, api.KFolder, []int{20, 4, 1}[n-1], n)
			want[n] = map[string]int{}
		}
		must(t, s.Commit())
		must(t, s.Sync())
		for range 600 {
			n, name, m := 1+r.Intn(3), parts[r.Intn(len(parts))]+parts[r.Intn(len(parts))], 1+r.Intn(64)
			was := maps.Clone(want[n])
			oneCall(t, r, b, n, name, m, want[n])
			switch r.Intn(8) {
			case 0:
				s.Abort()
				want[n] = was
			case 1:
				must(t, s.Commit())
				must(t, s.Sync())
				d.Crash(r.Intn(2) == 0, nil)
				b, s = opened(t, d)
			default:
				must(t, s.Commit())
			}
			for n, all := range want {
				matches(t, b, n, all)
			}
			is(t, b.Check(), api.OK)
		}
	}
}

func oneCall(t *testing.T, r *rand.Rand, b *inode.Base, n int, name string, m int, want map[string]int) {
	t.Helper()
	node, there := want[name]
	switch r.Intn(5) {
	case 0:
		k, e := Find(b, n, name)
		if k != node || there != (e == api.OK) || !there && e != api.ErrNone {
			t.Fatal(name, k, e)
		}
	case 1, 2:
		e := Del(b, n, name)
		if there != (e == api.OK) || !there && e != api.ErrNone {
			t.Fatal(name, e)
		}
		delete(want, name)
	default:
		size := 2 + len(name)
		for x := range want {
			size += 2 + len(x)
		}
		i, e := b.Info(n)
		must(t, e)
		e = Add(b, n, name, m)
		switch {
		case there:
			is(t, e, api.ErrThere)
		case len(want) == 32:
			is(t, e, api.ErrMany)
		case size > 64*i.Room:
			is(t, e, api.ErrRoom)
		default:
			must(t, e)
			want[name] = m
		}
	}
}

func matches(t *testing.T, b *inode.Base, n int, want map[string]int) {
	t.Helper()
	var l []api.Entry
	for _, name := range slices.Sorted(maps.Keys(want)) {
		l = append(l, api.Entry{Name: name, Node: want[name]})
	}
	holds(t, b, n, l...)
}

// TestOneNameEach: names that look alike, or have the same bytes at their beginning or end, are of themselves.
func TestOneNameEach(t *testing.T) {
	b, _ := fresh(t, 20)
	names := []string{"a", "A", "aa", "aaa", "a ", " a", "é", "e\u0301", "a.", ".a", "...", "b", "ab", "ba", strings.Repeat("a", 24), strings.Repeat("a", 23)}
	adds(t, b, 1, names...)
	for i, name := range names {
		if m, e := Find(b, 1, name); m != i+1 || e != api.OK {
			t.Errorf("%q %d %v", name, m, e)
		}
	}
	for i, name := range names {
		must(t, Del(b, 1, name))
		for k, other := range names {
			m, e := Find(b, 1, other)
			if k <= i && (m != 0 || e != api.ErrNone) || k > i && (m != k+1 || e != api.OK) {
				t.Errorf("%q behind %q: %d %v", other, name, m, e)
			}
		}
	}
	holds(t, b, 1)
}

// TestOneNodeMoreNames: a number is not asked whether it is taken, nor by what name.
func TestOneNodeMoreNames(t *testing.T) {
	b, _ := fresh(t, 20)
	for _, name := range []string{"b", "a", "c"} {
		must(t, Add(b, 1, name, 64))
	}
	must(t, Add(b, 1, "self", 1))
	must(t, Del(b, 1, "a"))
	holds(t, b, 1, api.Entry{Name: "b", Node: 64}, api.Entry{Name: "c", Node: 64}, api.Entry{Name: "self", Node: 1})
	if l := b.Nodes(); !slices.Equal(l, []int{1}) {
		t.Error(l)
	}
}

// TestOtherNodes: what is done in a folder is seen in no other node, and a folder stays what it is beside its bytes.
func TestOtherNodes(t *testing.T) {
	b, s := opened(t, device(t, 500))
	l := api.Label{S: []int{5, 9}, I: []int{2}}
	n, e := b.Make(api.KFolder, l, 20)
	must(t, e)
	makes(t, b, api.KFolder, 20, 2)
	makes(t, b, api.KFile, 2, 3)
	adds(t, b, 2, "a", "b")
	must(t, b.Write(3, 0, []byte("bytes")))
	adds(t, b, n, "b", "a", "c")
	must(t, Del(b, n, "a"))
	holds(t, b, n, api.Entry{Name: "b", Node: 1}, api.Entry{Name: "c", Node: 3})
	holds(t, b, 2, api.Entry{Name: "a", Node: 1}, api.Entry{Name: "b", Node: 2})
	i, e := b.Info(n)
	must(t, e)
	if i.Kind != api.KFolder || i.Room != 20 || i.Size != 6 || !slices.Equal(i.Label.S, l.S) || !slices.Equal(i.Label.I, l.I) || bytesOf(t, b, 3) != "bytes" {
		t.Error(i)
	}
	// Nothing of it was committed.
	if all, _ := s.Commits(); all != 0 {
		t.Error("somebody commits")
	}
	s.Abort()
	if l := b.Nodes(); len(l) != 0 {
		t.Error(l)
	}
}

// Promise 7.4.

// crowd gives a Base with two folders, behind a Commit, and fills the transaction but for so many sectors. Of folder 1 the last block has few bytes, so that many a Del makes it free; with more, a part of its sectors is of the transaction already.
func crowd(t *testing.T, more bool, place int) (*inode.Base, *wal.Store) {
	t.Helper()
	b, s := fresh(t, 20)
	makes(t, b, api.KFolder, 1, 2)
	adds(t, b, 2, "a")
	for k := range 28 {
		must(t, Add(b, 1, fmt.Sprintf("name %02d", k), 1+k))
	}
	must(t, Add(b, 1, "none", 64))
	must(t, s.Commit())
	if more {
		must(t, Add(b, 1, "z", 64))
		place += 2
	}
	for k := range api.MaxWrites - place {
		must(t, s.Write(499-k, filler()))
	}
	return b, s
}

func filler() []byte {
	return []byte(strings.Repeat("f", api.Sector))
}

// TestTransactionFull: whatever place is left in the transaction, each call is done whole, or it is not done and answers ErrBig; and what stood in the transaction stays there.
func TestTransactionFull(t *testing.T) {
	steps := []func(b *inode.Base) api.Errno{
		func(b *inode.Base) api.Errno { return Add(b, 1, "0", 9) },
		func(b *inode.Base) api.Errno { return Add(b, 1, strings.Repeat("0", 24), 9) },
		func(b *inode.Base) api.Errno { return Add(b, 1, "zz", 9) },
		func(b *inode.Base) api.Errno { return Del(b, 1, "name 00") },
		func(b *inode.Base) api.Errno { return Del(b, 1, "name 14") },
		func(b *inode.Base) api.Errno { return Del(b, 1, "none") },
		func(b *inode.Base) api.Errno { return Del(b, 2, "a") },
	}
	for i, step := range steps {
		for _, more := range []bool{false, true} {
			failed := 0
			b, _ := crowd(t, more, 100)
			before := bytesOf(t, b, 1) + "|" + bytesOf(t, b, 2)
			must(t, step(b))
			done := bytesOf(t, b, 1) + "|" + bytesOf(t, b, 2)
			for place := range 12 {
				b, s := crowd(t, more, place)
				e := step(b)
				want := done
				if e != api.OK {
					is(t, e, api.ErrBig)
					want = before
					failed++
				}
				if got := bytesOf(t, b, 1) + "|" + bytesOf(t, b, 2); got != want {
					t.Errorf("%d %v %d: %v, %q", i, more, place, e, got)
				}
				must(t, s.Commit())
				if bytesOf(t, b, 1)+"|"+bytesOf(t, b, 2) != want || b.Check() != api.OK {
					t.Error(i, more, place, "not what was committed")
				}
				for k := range api.MaxWrites - place - 2 {
					if text, e := s.Read(499 - k); string(text) != string(filler()) || e != api.OK {
						t.Fatal(i, more, place, "what stood in the transaction is lost")
					}
				}
			}
			if failed > 8 || !more && failed == 0 {
				t.Error(i, more, "failed for want of place", failed, "times")
			}
		}
	}
}

// TestDelHalf: where the transaction has place for what a Del writes, and not for its Cut, the folder is as it was.
func TestDelHalf(t *testing.T) {
	for _, x := range []struct {
		name    string
		sectors int
	}{{"name 00", 4}, {"name 10", 3}, {"name 20", 2}} {
		// The Cut needs the sector of the head, and one of bits.
		for place := x.sectors; place < x.sectors+2; place++ {
			b, s := crowd(t, false, place)
			before, e := List(b, 1)
			must(t, e)
			is(t, Del(b, 1, x.name), api.ErrBig)
			holds(t, b, 1, before...)
			is(t, b.Check(), api.OK)
			must(t, s.Commit())
			holds(t, b, 1, before...)
			must(t, Del(b, 1, x.name))
		}
		b, _ := crowd(t, false, x.sectors+2)
		must(t, Del(b, 1, x.name))
	}
}

// TestOtherBytes: each byte of the Base's own sectors and of the first blocks changed: what is no node is told by inode's error, and a call with an error changes nothing.
func TestOtherBytes(t *testing.T) {
	b, s := fresh(t, 20)
	adds(t, b, 1, strings.Repeat("a", 24), strings.Repeat("b", 24), strings.Repeat("c", 24))
	must(t, s.Commit())
	// The first sectors have bits, and the node of the folder; those from 300 on are blocks.
	asked := []int{300, 301, 302}
	for i := range 24 {
		asked = append(asked, i)
	}
	sectors := func() string {
		var all []byte
		for _, i := range asked {
			text, e := s.Read(i)
			must(t, e)
			all = append(all, text...)
		}
		return string(all)
	}
	forms := 0
	for at := range len(asked) * api.Sector {
		i := asked[at/api.Sector]
		text, e := s.Read(i)
		must(t, e)
		text[at%api.Sector] ^= 0xff
		for _, do := range []func() api.Errno{
			func() api.Errno { return Del(b, 1, strings.Repeat("a", 24)) },
			func() api.Errno { return Del(b, 1, strings.Repeat("c", 24)) },
			func() api.Errno { return Add(b, 1, "a", 1) },
			func() api.Errno { _, e := Find(b, 1, strings.Repeat("c", 24)); return e },
			func() api.Errno { _, e := List(b, 1); return e },
		} {
			must(t, s.Write(i, text))
			before := sectors()
			_, below := b.Read(1, 0, 999)
			e := do()
			if below != api.OK {
				is(t, e, below)
				forms++
			}
			if e != api.OK && sectors() != before {
				t.Error(at, e, "something is done")
			}
			s.Abort()
		}
	}
	if forms == 0 {
		t.Error("all bytes are nodes")
	}
	if _, e := List(b, 1); e != api.OK {
		t.Error(e)
	}
}

// TestAnyBytes: whatever bytes a folder has, calls that change it leave a folder, and those with an error change nothing.
func TestAnyBytes(t *testing.T) {
	r := rand.New(rand.NewSource(3))
	names := []string{"", "a", "b", "ab", ".", "\xff", strings.Repeat("x", 24), strings.Repeat("x", 25), "é"}
	b, _ := fresh(t, 20)
	for range 4000 {
		text := make([]byte, r.Intn(1+r.Intn(900)))
		for i := range text {
			text[i] = "\x01\x01\x02\x03abcxyz\x01\x40\x00\xc3\xa9\xff/"[r.Intn(17)]
		}
		if r.Intn(3) == 0 {
			text = []byte(manyBytes(r.Intn(40)))
			if len(text) > 0 && r.Intn(2) == 0 {
				text[r.Intn(len(text))] ^= byte(1 << r.Intn(8))
			}
		}
		sets(t, b, 1, string(text))
		_, good := List(b, 1)
		for range 3 {
			name, m := names[r.Intn(len(names))], r.Intn(70)-2
			before := bytesOf(t, b, 1)
			Find(b, 1, name)
			do, what := func() api.Errno { return Add(b, 1, name, m) }, "Add"
			if r.Intn(2) == 0 {
				do, what = func() api.Errno { return Del(b, 1, name) }, "Del"
			}
			e := do()
			if good != api.OK && e != good || (e == api.OK) == (bytesOf(t, b, 1) == before) {
				t.Fatalf("%s %q %d in %q: %v", what, name, m, before, e)
			}
			if _, now := List(b, 1); now != good {
				t.Fatalf("%s %q %d in %q: then %v", what, name, m, before, now)
			}
		}
	}
}

// TestNewMemory: what is told is nobody else's, its spare room neither.
func TestNewMemory(t *testing.T) {
	b, _ := fresh(t, 20)
	adds(t, b, 1, "a", "b", "c")
	want := []api.Entry{{Name: "a", Node: 1}, {Name: "b", Node: 2}, {Name: "c", Node: 3}}
	l, e := List(b, 1)
	must(t, e)
	other, e := List(b, 1)
	must(t, e)
	clear(l[:cap(l)])
	if !slices.Equal(other, want) {
		t.Error(other)
	}
	holds(t, b, 1, want...)
	names, e := Split("/a/b/c")
	must(t, e)
	more, e := Split("/a/b/c")
	must(t, e)
	clear(names[:cap(names)])
	if !slices.Equal(more, []string{"a", "b", "c"}) {
		t.Error(more)
	}
}
