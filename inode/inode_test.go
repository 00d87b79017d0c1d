package inode

import (
	"bytes"
	"math"
	"math/rand"
	"reflect"
	"slices"
	"testing"

	"lazaret/api"
	"lazaret/dev"
	"lazaret/label"
	"lazaret/wal"
)

var none = api.Label{}

func device(t testing.TB, sectors int) *dev.Device {
	t.Helper()
	d, e := dev.New(300 + sectors)
	must(t, e)
	return d
}

func opened(t testing.TB, d *dev.Device) (*Base, *wal.Store) {
	t.Helper()
	s, e := wal.Open(d)
	must(t, e)
	b, e := Open(s)
	must(t, e)
	return b, s
}

// fresh is a Base on a new device with so many sectors for the store.
func fresh(t testing.TB, sectors int) (*Base, *wal.Store) {
	t.Helper()
	return opened(t, device(t, sectors))
}

func must(t testing.TB, e api.Errno) {
	t.Helper()
	if e != api.OK {
		t.Fatal(e)
	}
}

func is(t testing.TB, e, want api.Errno) {
	t.Helper()
	if e != want {
		t.Fatal(e, "not", want)
	}
}

func makes(t testing.TB, b *Base, room, want int) {
	t.Helper()
	if n, e := b.Make(api.KFile, none, room); n != want || e != api.OK {
		t.Fatal("Make", n, e, "not", want)
	}
}

// letters are k bytes that are no noughts, others for each seed.
func letters(seed, k int) []byte {
	out := make([]byte, k)
	for i := range out {
		out[i] = byte(1 + (seed*31+i*7+i/250)%255)
	}
	return out
}

func holds(t testing.TB, b *Base, n int, want []byte) {
	t.Helper()
	i, e := b.Info(n)
	must(t, e)
	got, e := b.Read(n, 0, math.MaxInt)
	must(t, e)
	if i.Size != len(want) || !bytes.Equal(got, want) {
		t.Fatal("node", n, "holds other bytes", i.Size, len(want))
	}
}

func free(t testing.TB, b *Base, want int) {
	t.Helper()
	if n, _ := b.Blocks(); n != want {
		t.Fatal("free", n, "not", want)
	}
}

func put(t testing.TB, s *wal.Store, i int, text []byte) {
	t.Helper()
	must(t, s.Write(i, text))
}

func get(t testing.TB, s *wal.Store, i int) []byte {
	t.Helper()
	text, e := s.Read(i)
	must(t, e)
	return text
}

// told is all that a Base tells.
type told struct {
	nodes     []int
	infos     []api.Info
	texts     []string
	free, all int
	check     api.Errno
}

func tells(t testing.TB, b *Base) told {
	t.Helper()
	x := told{nodes: b.Nodes(), check: b.Check()}
	x.free, x.all = b.Blocks()
	for _, n := range x.nodes {
		i, e := b.Info(n)
		must(t, e)
		text, e := b.Read(n, 0, i.Size)
		must(t, e)
		x.infos, x.texts = append(x.infos, i), append(x.texts, string(text))
	}
	return x
}

func same(t testing.TB, b *Base, want told) {
	t.Helper()
	if got := tells(t, b); !reflect.DeepEqual(got, want) {
		t.Fatal("the Base tells", got.nodes, got.infos, got.free, got.check, "not", want.nodes, want.infos, want.free, want.check)
	}
}

// Promise 6.1.

func TestOpenBounds(t *testing.T) {
	if b, e := Open(nil); b != nil || e != api.ErrArg {
		t.Error(e)
	}
	for _, n := range []int{1, 300, 301, 399} {
		s, e := wal.Open(device(t, n))
		must(t, e)
		if b, e := Open(s); b != nil || e != api.ErrArg {
			t.Error(n, e)
		}
	}
	for _, n := range []int{400, 401, 811, 812, 813, 1000, 7892} {
		b, s := fresh(t, n)
		if f, all := b.Blocks(); f != n-300 || all != n-300 {
			t.Error(n, f, all)
		}
		if len(b.Nodes()) != 0 || b.Check() != api.OK {
			t.Error(n, b.Nodes(), b.Check())
		}
		for i := range s.Size() {
			if !bytes.Equal(get(t, s, i), make([]byte, api.Sector)) {
				t.Error(n, i, "Open writes")
			}
		}
	}
}

func TestNumbers(t *testing.T) {
	b, _ := fresh(t, 400)
	for n := 1; n <= api.MaxNodes; n++ {
		makes(t, b, 1, n)
	}
	all := tells(t, b)
	if n, e := b.Make(api.KFile, none, 1); n != 0 || e != api.ErrFull {
		t.Error(n, e)
	}
	same(t, b, all)
	for _, n := range []int{64, 2, 33} {
		must(t, b.Free(n))
	}
	if l := b.Nodes(); len(l) != 61 || slices.Contains(l, 2) || slices.Contains(l, 33) || slices.Contains(l, 64) || !slices.IsSorted(l) {
		t.Error(l)
	}
	for _, n := range []int{2, 33, 64} {
		makes(t, b, 1, n)
	}
	is(t, b.Check(), api.OK)
}

// TestAllBlocks: as many blocks as there are can be had, each of them.
func TestAllBlocks(t *testing.T) {
	for _, n := range []int{400, 813, 1324, 7892} {
		b, s := fresh(t, n)
		want := map[int][]byte{}
		for i := 0; ; i++ {
			room := 27
			if f, _ := b.Blocks(); f < room {
				room = f
			}
			if room == 0 || len(want) == api.MaxNodes {
				break
			}
			m, e := b.Make(api.KFile, none, room)
			must(t, e)
			want[m] = letters(i, room*api.Sector)
			must(t, b.Write(m, 0, want[m]))
			must(t, s.Commit())
		}
		for m, text := range want {
			holds(t, b, m, text)
		}
		if n < 1500 {
			free(t, b, 0)
		}
		is(t, b.Check(), api.OK)
	}
}

// TestLastBlocks: of a large store the last blocks, too, can be had.
func TestLastBlocks(t *testing.T) {
	b, s := fresh(t, 7892)
	for n := 1; n <= 30; n++ {
		makes(t, b, 256, n)
		for at := 0; at < 256*64; at += 4096 {
			must(t, b.Write(n, at, letters(n, 4096)))
			must(t, s.Commit())
			if f, _ := b.Blocks(); f == 0 {
				return
			}
			if f, _ := b.Blocks(); f < 80 {
				// The rest goes block by block to a node of its own.
				makes(t, b, f, n+1)
				lists := 0
				for k := 1; k <= f; k++ {
					e := b.Write(n+1, (k-1)*64, letters(k, 64))
					must(t, s.Commit())
					if e == api.ErrFull {
						lists = f - k + 1
						break
					}
					must(t, e)
				}
				if lists > f/8+1 {
					t.Error("of", f, "blocks", lists, "are not to be had")
				}
				is(t, b.Check(), api.OK)
				return
			}
		}
	}
	t.Error("never full")
}

// TestNoCommit: no call commits, so all can be aborted, and nothing lasts of itself.
func TestNoCommit(t *testing.T) {
	d := device(t, 700)
	b, s := opened(t, d)
	makes(t, b, 9, 1)
	must(t, b.Write(1, 0, letters(1, 300)))
	must(t, s.Commit())
	before := tells(t, b)
	all, _ := s.Commits()
	for _, do := range []func(){
		func() { makes(t, b, 100, 2); must(t, b.Write(2, 5000, letters(2, 1000))) },
		func() { must(t, b.Write(1, 299, letters(3, 200))) },
		func() { must(t, b.Cut(1, 10)) },
		func() { must(t, b.Free(1)); makes(t, b, 3, 1) },
		func() { b.Check(); b.Nodes(); b.Blocks(); b.Info(1); b.Read(1, 0, 9) },
	} {
		do()
		if n, _ := s.Commits(); n != all {
			t.Error("somebody commits")
		}
		s.Abort()
		same(t, b, before)
	}
	must(t, b.Write(1, 0, letters(4, 500)))
	must(t, s.Commit())
	must(t, s.Sync())
	after := tells(t, b)
	must(t, b.Free(1))
	d.Crash(false, nil)
	b, _ = opened(t, d)
	same(t, b, after)
}

// TestNothingKept: two Bases of one store tell the same, since all that there is is in the store.
func TestNothingKept(t *testing.T) {
	b, s := fresh(t, 600)
	c, e := Open(s)
	must(t, e)
	makes(t, b, 200, 1)
	makes(t, c, 20, 2)
	must(t, b.Write(2, 30, letters(1, 700)))
	must(t, c.Write(1, 0, letters(2, 3000)))
	must(t, b.Free(2))
	makes(t, c, 3, 2)
	same(t, c, tells(t, b))
	is(t, c.Check(), api.OK)
}

// Promise 6.2.

func TestMakeAndInfo(t *testing.T) {
	most := api.Label{}
	for i := range api.MaxTags {
		most.S = append(most.S, math.MaxInt32-15+i)
		most.I = append(most.I, 1<<20+i)
	}
	b, _ := fresh(t, 400)
	n := 0
	for _, kind := range []int{api.KFile, api.KFolder} {
		for _, l := range []api.Label{none, {S: []int{5}}, {I: []int{1, 1<<31 - 1}}, {S: []int{1, 256, 65536}, I: []int{2}}, most} {
			for _, room := range []int{0, 1, 255, 256} {
				n++
				m, e := b.Make(kind, l, room)
				if m != n || e != api.OK {
					t.Fatal(m, e)
				}
				i, e := b.Info(m)
				if e != api.OK || i.Kind != kind || i.Size != 0 || i.Room != room || !label.Same(i.Label, l) || len(i.Label.S) != len(l.S) || len(i.Label.I) != len(l.I) {
					t.Error(i, e)
				}
				if text, e := b.Read(m, 0, 10); len(text) != 0 || e != api.OK {
					t.Error(text, e)
				}
			}
		}
	}
	free(t, b, 100)
	is(t, b.Check(), api.OK)
}

// TestMakeForgets: of a node that was freed nothing is left in the next one of its number.
func TestMakeForgets(t *testing.T) {
	b, s := fresh(t, 500)
	n, e := b.Make(api.KFolder, api.Label{S: []int{1, 2, 3}, I: []int{4, 5}}, 99)
	must(t, e)
	must(t, b.Write(n, 0, letters(1, 99*64)[:6144]))
	must(t, s.Commit())
	must(t, b.Free(n))
	makes(t, b, 98, n)
	if i, e := b.Info(n); e != api.OK || !reflect.DeepEqual(i, api.Info{Kind: api.KFile, Room: 98, Label: i.Label}) || !label.Same(i.Label, none) {
		t.Error(i, e)
	}
	must(t, b.Write(n, 6000, []byte{1}))
	holds(t, b, n, append(make([]byte, 6000), 1))
}

func TestMakeErrors(t *testing.T) {
	b, _ := fresh(t, 400)
	long := make([]int, 17)
	for i := range long {
		long[i] = i + 1
	}
	before := tells(t, b)
	for full := range 2 {
		for i, x := range []struct {
			kind int
			l    api.Label
			room int
		}{
			{0, none, 1}, {3, none, 1}, {-1, none, 1}, {math.MaxInt, none, 1}, {math.MinInt, none, 1}, {1 + 1<<16, none, 1}, {257, none, 1},
			{1, none, -1}, {1, none, 257}, {1, none, math.MinInt}, {1, none, math.MaxInt}, {1, none, 1 << 16},
			{1, api.Label{S: []int{0}}, 1}, {1, api.Label{I: []int{-3}}, 1}, {1, api.Label{S: []int{2, 1}}, 1}, {1, api.Label{I: []int{1, 1}}, 1}, {1, api.Label{S: []int{1 << 31}}, 1}, {2, api.Label{S: long}, 1}, {2, api.Label{I: long}, 1},
		} {
			if n, e := b.Make(x.kind, x.l, x.room); n != 0 || e != api.ErrArg {
				t.Error(full, i, n, e)
			}
		}
		same(t, b, before)
		for range api.MaxNodes {
			b.Make(api.KFolder, none, 1)
		}
		before = tells(t, b)
	}
}

// noNode are numbers of which there is no node, where there is node 2 alone.
var noNode = []int{0, -1, 1, 3, 64, 65, 66, 1000, math.MinInt, math.MaxInt, math.MaxInt - 1}

func TestErrNone(t *testing.T) {
	b, _ := fresh(t, 400)
	makes(t, b, 1, 1)
	makes(t, b, 1, 2)
	must(t, b.Free(1))
	before := tells(t, b)
	for _, n := range noNode {
		if i, e := b.Info(n); e != api.ErrNone || !reflect.DeepEqual(i, api.Info{}) {
			t.Error(n, i, e)
		}
		for _, at := range []int{-1, 0, 1, math.MaxInt, math.MinInt} {
			if text, e := b.Read(n, at, at); e != api.ErrNone || text != nil {
				t.Error(n, text, e)
			}
			for _, k := range []int{0, 1, 65, 7000} {
				is(t, b.Write(n, at, make([]byte, k)), api.ErrNone)
			}
			is(t, b.Cut(n, at), api.ErrNone)
		}
		is(t, b.Free(n), api.ErrNone)
		same(t, b, before)
	}
}

func TestRead(t *testing.T) {
	b, _ := fresh(t, 400)
	makes(t, b, 60, 1)
	want := letters(1, 2500)
	must(t, b.Write(1, 0, want))
	places := []int{0, 1, 63, 64, 65, 127, 128, 1727, 1728, 1729, 2498, 2499, 2500, 2501, 2560, 9999, math.MaxInt - 1, math.MaxInt}
	for _, at := range places {
		for _, k := range places {
			rest := want[min(at, len(want)):]
			rest = rest[:min(k, len(rest))]
			text, e := b.Read(1, at, k)
			if e != api.OK || !bytes.Equal(text, rest) {
				t.Error(at, k, len(text), e)
			}
		}
		for _, below := range []int{-1, -64, math.MinInt} {
			for _, x := range [][2]int{{below, at}, {at, below}, {below, below}} {
				if text, e := b.Read(1, x[0], x[1]); text != nil || e != api.ErrArg {
					t.Error(x, text, e)
				}
			}
		}
	}
}

func TestWriteErrors(t *testing.T) {
	b, _ := fresh(t, 500)
	makes(t, b, 2, 1)
	makes(t, b, 0, 2)
	makes(t, b, 256, 3)
	must(t, b.Write(1, 0, letters(1, 100)))
	before := tells(t, b)
	for i, x := range []struct {
		n, at, k int
		want     api.Errno
	}{
		{1, -1, 0, api.ErrArg}, {1, -1, 9000, api.ErrArg}, {1, math.MinInt, 1, api.ErrArg}, {2, -1, 1, api.ErrArg}, {3, -1, 6145, api.ErrArg},
		{1, 129, 0, api.ErrRoom}, {1, 128, 1, api.ErrRoom}, {1, 127, 2, api.ErrRoom}, {1, 0, 129, api.ErrRoom}, {1, 500, 0, api.ErrRoom}, {1, math.MaxInt, 0, api.ErrRoom}, {1, math.MaxInt, 1, api.ErrRoom}, {1, math.MaxInt, 200, api.ErrRoom}, {1, math.MaxInt - 1, 7000, api.ErrRoom},
		{2, 0, 1, api.ErrRoom}, {2, 1, 0, api.ErrRoom}, {2, 0, 6145, api.ErrRoom}, {3, 16384, 1, api.ErrRoom}, {3, 16385, 0, api.ErrRoom}, {3, 10000, 6385, api.ErrRoom}, {3, 0, 16385, api.ErrRoom},
		{3, 0, 6145, api.ErrBig}, {3, 0, 16384, api.ErrBig}, {3, 1, 6144, api.ErrBig}, {3, 6144, 1, api.ErrBig}, {3, 16383, 1, api.ErrBig}, {3, 10000, 6384, api.ErrBig},
		{1, 128, 0, api.OK}, {1, 3, 0, api.OK}, {2, 0, 0, api.OK}, {3, 16384, 0, api.OK}, {3, 6145, 0, api.OK}, {3, 0, 0, api.OK},
	} {
		if e := b.Write(x.n, x.at, letters(2, x.k)); e != x.want {
			t.Error(i, x, e)
		}
		if x.k == 0 {
			is(t, b.Write(x.n, x.at, nil), x.want)
		}
		same(t, b, before)
	}
	must(t, b.Write(1, 127, []byte("c")))
	free(t, b, 198)
}

// TestErrBigFromSize: it is the end of what is written that counts, and the less of its beginning and Size.
func TestErrBigFromSize(t *testing.T) {
	b, s := fresh(t, 700)
	makes(t, b, 256, 1)
	must(t, b.Write(1, 0, letters(1, 6144)))
	must(t, s.Commit())
	want := letters(1, 6144)
	must(t, b.Write(1, 0, []byte{9}))
	want[0] = 9
	holds(t, b, 1, want)
	must(t, s.Commit())
	is(t, b.Write(1, 12288, []byte{1}), api.ErrBig)
	is(t, b.Write(1, 6145, letters(2, 6144)), api.ErrBig)
	is(t, b.Write(1, 100, letters(2, 6145)), api.ErrBig)
	must(t, b.Write(1, 12287, []byte{1}))
	want = append(append(want, make([]byte, 6143)...), 1)
	holds(t, b, 1, want)
	must(t, s.Commit())
	// 97 blocks, which is the most that a Write can be of.
	must(t, b.Write(1, 33, letters(3, 6144)))
	copy(want[33:], letters(3, 6144))
	holds(t, b, 1, want)
	must(t, s.Commit())
	must(t, b.Write(1, 12288, letters(4, 4096)))
	holds(t, b, 1, append(want, letters(4, 4096)...))
	is(t, b.Check(), api.OK)
}

func TestNoughtsFill(t *testing.T) {
	b, _ := fresh(t, 500)
	// What stood in the blocks before must not be seen in the gaps.
	makes(t, b, 100, 1)
	must(t, b.Write(1, 0, letters(1, 6000)))
	must(t, b.Free(1))
	makes(t, b, 100, 1)
	var want []byte
	for i, x := range [][2]int{{3, 2}, {60, 9}, {64, 1}, {200, 1}, {192, 0}, {1000, 5}, {1728, 1}, {3776, 1}, {1500, 600}} {
		must(t, b.Write(1, x[0], letters(i, x[1])))
		for len(want) < x[0]+x[1] && x[1] > 0 {
			want = append(want, 0)
		}
		copy(want[min(x[0], len(want)):], letters(i, x[1]))
		holds(t, b, 1, want)
	}
	must(t, b.Cut(1, 130))
	holds(t, b, 1, want[:130])
	must(t, b.Write(1, 190, []byte{7}))
	holds(t, b, 1, append(append(slices.Clone(want[:130]), make([]byte, 60)...), 7))
}

func TestCut(t *testing.T) {
	b, s := fresh(t, 700)
	makes(t, b, 256, 1)
	makes(t, b, 0, 2)
	want := letters(1, 16384)
	fill := func() {
		for at := 0; at < len(want); at += 4096 {
			must(t, b.Write(1, at, want[at:at+4096]))
			must(t, s.Commit())
		}
	}
	for _, size := range []int{16384, 16383, 16320, 5889, 5888, 5887, 3777, 3776, 1729, 1728, 1727, 65, 64, 63, 1, 0} {
		fill()
		must(t, b.Cut(1, size))
		holds(t, b, 1, want[:size])
		is(t, b.Check(), api.OK)
		for _, wrong := range []int{-1, size + 1, math.MinInt, math.MaxInt} {
			is(t, b.Cut(1, wrong), api.ErrArg)
		}
		holds(t, b, 1, want[:size])
		must(t, b.Cut(1, size))
		must(t, s.Commit())
	}
	must(t, b.Cut(2, 0))
	is(t, b.Cut(2, 1), api.ErrArg)
	free(t, b, 400)
}

// TestFewBlocks: of each size as many blocks are taken as it needs, and few more that list them; on the way up and down.
func TestFewBlocks(t *testing.T) {
	b, s := fresh(t, 700)
	makes(t, b, 256, 1)
	fits := func(size int) {
		t.Helper()
		blocks := (size + 63) / 64
		f, _ := b.Blocks()
		if taken := 400 - f; taken < blocks || taken > blocks+blocks/8+1 {
			t.Fatal(size, "bytes take", taken)
		}
		if blocks <= 2 {
			free(t, b, 400-blocks)
		}
		is(t, b.Check(), api.OK)
	}
	for k := 1; k <= 256; k++ {
		must(t, b.Write(1, k*64-64, []byte{1}))
		fits(k*64 - 63)
		must(t, b.Write(1, k*64-1, []byte{1}))
		fits(k * 64)
		must(t, s.Commit())
	}
	for k := 255; k >= 0; k-- {
		must(t, b.Cut(1, k*64+1))
		fits(k*64 + 1)
		must(t, b.Cut(1, k*64))
		fits(k * 64)
		must(t, s.Commit())
	}
	free(t, b, 400)
}

func TestErrFull(t *testing.T) {
	b, s := fresh(t, 400)
	makes(t, b, 256, 1)
	makes(t, b, 256, 2)
	must(t, b.Write(1, 0, letters(1, 80*64)))
	must(t, s.Commit())
	f, _ := b.Blocks()
	if f < 9 || f > 20 {
		t.Fatal(f)
	}
	before := tells(t, b)
	for _, k := range []int{f*64 + 1, f*64 + 64, 6144} {
		is(t, b.Write(2, 0, letters(2, k)), api.ErrFull)
		is(t, b.Write(2, k-1, letters(2, 1)), api.ErrFull)
		is(t, b.Write(1, 80*64, letters(2, k)), api.ErrFull)
		// What stands ahead of the first new block isn't written either.
		is(t, b.Write(1, 80*64-200, letters(2, min(200+k, 6144))), api.ErrFull)
		same(t, b, before)
	}
	// Bytes in blocks that there are need no others.
	must(t, b.Write(2, 0, letters(2, f*64)))
	free(t, b, 0)
	is(t, b.Write(2, f*64, []byte{1}), api.ErrFull)
	must(t, b.Write(1, 0, letters(3, 80*64)))
	holds(t, b, 1, letters(3, 80*64))
	holds(t, b, 2, letters(2, f*64))
	is(t, b.Check(), api.OK)
	// A file takes no block, so it can be made all the same.
	makes(t, b, 256, 3)
	is(t, b.Write(3, 0, []byte{1}), api.ErrFull)
	must(t, b.Cut(2, f*64-64))
	must(t, b.Write(3, 0, []byte{1}))
	free(t, b, 0)
}

// TestErrFullCountsLists: where there are blocks for the bytes, and none for the list, blocks are wanting.
func TestErrFullCountsLists(t *testing.T) {
	for k := 1; k <= 90; k++ {
		b, s := fresh(t, 400)
		makes(t, b, 256, 1)
		must(t, b.Write(1, 0, letters(1, k*64)))
		must(t, s.Commit())
		f, _ := b.Blocks()
		// Nodes of one block have no list.
		for n := 2; f > 0; n++ {
			makes(t, b, 2, n)
			must(t, b.Write(n, 0, letters(n, min(2, f)*64)))
			f, _ = b.Blocks()
			must(t, s.Commit())
		}
		before := tells(t, b)
		is(t, b.Write(1, k*64-1, letters(2, 2)), api.ErrFull)
		same(t, b, before)
		must(t, b.Free(2))
		f, _ = b.Blocks()
		e := b.Write(1, k*64-1, letters(2, 1+f*64))
		if e != api.OK && e != api.ErrFull {
			t.Error(k, e)
		}
		if e == api.ErrFull {
			must(t, b.Cut(1, k*64))
			free(t, b, f)
		}
		is(t, b.Check(), api.OK)
	}
}

func TestFree(t *testing.T) {
	b, s := fresh(t, 900)
	for n, k := range []int{0, 1, 64, 27 * 64, 28 * 64, 59 * 64, 60 * 64, 96 * 64} {
		makes(t, b, 100, n+1)
		must(t, b.Write(n+1, 0, letters(n, k)))
		must(t, s.Commit())
	}
	order := []int{3, 8, 1, 6, 5, 7, 2, 4}
	for i, n := range order {
		f, _ := b.Blocks()
		info, e := b.Info(n)
		must(t, e)
		must(t, b.Free(n))
		is(t, b.Free(n), api.ErrNone)
		is(t, b.Check(), api.OK)
		if now, _ := b.Blocks(); now < f+(info.Size+63)/64 {
			t.Error(n, f, now)
		}
		for _, m := range order[i+1:] {
			info, e := b.Info(m)
			must(t, e)
			holds(t, b, m, letters(m-1, info.Size))
		}
		must(t, s.Commit())
	}
	free(t, b, 600)
	if l := b.Nodes(); len(l) != 0 {
		t.Error(l)
	}
}

// TestCheckBits: each bit of a block, and of a number, counts.
func TestCheckBits(t *testing.T) {
	b, s := fresh(t, 820)
	makes(t, b, 256, 1)
	makes(t, b, 5, 2)
	must(t, b.Write(1, 0, letters(1, 90*64)))
	must(t, b.Write(2, 0, letters(2, 5*64)))
	must(t, s.Commit())
	is(t, b.Check(), api.OK)
	for item := range 520 {
		i := bitsAt + item/512
		text := get(t, s, i)
		text[item%512/8] ^= 1 << (item % 8)
		put(t, s, i, text)
		is(t, b.Check(), api.ErrForm)
		s.Abort()
	}
	for item := range api.MaxNodes {
		text := get(t, s, numbersAt)
		text[item/8] ^= 1 << (item % 8)
		put(t, s, numbersAt, text)
		is(t, b.Check(), api.ErrForm)
		s.Abort()
	}
	is(t, b.Check(), api.OK)
}

// TestCheckNode: a head, a label or a list that Make and Write could not have made.
func TestCheckNode(t *testing.T) {
	b, s := fresh(t, 700)
	n, e := b.Make(api.KFile, api.Label{S: []int{3, 4}}, 100)
	must(t, e)
	must(t, b.Write(n, 0, letters(1, 60*64)))
	m, e := b.Make(api.KFolder, none, 3)
	must(t, e)
	must(t, b.Write(m, 0, letters(2, 100)))
	must(t, s.Commit())
	w, e := b.readWords(headAt(n))
	must(t, e)
	h := headOf(w)
	first, list, lists := h.roots[0], h.roots[first], h.roots[first+1]
	under, e := b.readWords(own + lists)
	must(t, e)
	word := func(at, place, number int) {
		w, e := b.readWords(at)
		must(t, e)
		w[place] = number
		put(t, s, at, w.text())
	}
	byteAt := func(at, place int, c byte) {
		text := get(t, s, at)
		text[place] = c
		put(t, s, at, text)
	}
	for i, wrong := range []func(){
		func() { word(headAt(n), 0, 0) },
		func() { word(headAt(n), 0, 3) },
		func() { word(headAt(n), 0, 257) },
		func() { word(headAt(n), 1, 257) },
		func() { word(headAt(n), 1, 59) },
		func() { word(headAt(n), 2, 6401) },
		func() { word(headAt(n), 2, 59*64) },
		func() { word(headAt(n), 2, 60*64+1) },
		func() { word(headAt(m), 2, 64) },
		func() { word(headAt(m), 2, 193) },
		func() { word(headAt(n), 3, h.roots[1]) },
		func() { word(headAt(n), 3, list) },
		func() { word(headAt(n), 3, lists) },
		func() { word(headAt(n), 3, 400) },
		func() { word(headAt(n), 3, 65535) },
		func() { word(headAt(n), 3, 399) },
		func() { word(headAt(m), 5, 7) },
		func() { word(headAt(m), 31, 7) },
		func() { word(headAt(m), 3, first) },
		func() { word(own+list, 0, first) },
		func() { word(own+list, 31, 65535) },
		func() { word(own+list, 31, 400) },
		func() { word(own+lists, 0, lists) },
		func() { word(own+lists, 0, 400) },
		func() { word(own+lists, 1, 9) },
		func() { word(own+under[0], 1, 9) },
		func() { word(own+under[0], 0, 398) },
		func() { byteAt(headAt(n)+1, 0, 17) },
		func() { byteAt(headAt(n)+1, 0, 1) },
		func() { byteAt(headAt(n)+1, 0, 3) },
		func() { byteAt(headAt(n)+1, 4, 9) },
		func() { byteAt(headAt(n)+1, 63, 9) },
		func() { byteAt(headAt(n)+2, 0, 9) },
		func() { byteAt(headAt(n)+3, 63, 9) },
		func() { byteAt(headAt(m)+1, 2, 1) },
		func() { byteAt(headAt(m)+1, 1, 16) },
	} {
		wrong()
		if e := b.Check(); e != api.ErrForm {
			t.Error(i, e)
		}
		s.Abort()
	}
	is(t, b.Check(), api.OK)
}

// TestCheckLost: a block that is of no node, and one that is of two.
func TestCheckLost(t *testing.T) {
	b, s := fresh(t, 400)
	makes(t, b, 9, 1)
	makes(t, b, 9, 2)
	must(t, b.Write(1, 0, letters(1, 9*64)))
	head := get(t, s, headAt(1))
	put(t, s, headAt(2), head)
	is(t, b.Check(), api.ErrForm)
	must(t, s.Commit())
	b, s = fresh(t, 400)
	makes(t, b, 9, 1)
	must(t, b.Write(1, 0, letters(1, 9*64)))
	empty := head[:6:6]
	empty = append(empty, make([]byte, 58)...)
	empty[4], empty[5] = 0, 0
	put(t, s, headAt(1), empty)
	if i, e := b.Info(1); i.Size != 0 || e != api.OK {
		t.Error(i, e)
	}
	is(t, b.Check(), api.ErrForm)
}

// Promise 6.3.

// TestAgainstPlain: many calls, some of them wrong, held against plain bytes, with Aborts, crashes and a new Open between them.
func TestAgainstPlain(t *testing.T) {
	for seed := range int64(6) {
		r := rand.New(rand.NewSource(seed))
		d := device(t, 700)
		b, s := opened(t, d)
		want, kept := map[int]*plain{}, map[int]*plain{}
		for i := range 700 {
			oneCall(t, r, b, want)
			switch r.Intn(6) {
			case 0:
				s.Abort()
				want = copied(kept)
			case 1:
				must(t, s.Commit())
				must(t, s.Sync())
				kept = copied(want)
				d.Crash(false, nil)
				b, s = opened(t, d)
			default:
				must(t, s.Commit())
				kept = copied(want)
			}
			if i%7 == 0 {
				matches(t, b, want)
			}
		}
		matches(t, b, want)
		for n := range want {
			must(t, b.Free(n))
			must(t, s.Commit())
		}
		free(t, b, 400)
		is(t, b.Check(), api.OK)
	}
}

type plain struct {
	info api.Info
	text []byte
}

func copied(m map[int]*plain) map[int]*plain {
	out := map[int]*plain{}
	for n, x := range m {
		out[n] = &plain{info: x.info, text: slices.Clone(x.text)}
	}
	return out
}

func oneCall(t *testing.T, r *rand.Rand, b *Base, want map[int]*plain) {
	t.Helper()
	n := r.Intn(9)
	x := want[n]
	switch r.Intn(12) {
	case 0, 1:
		i := api.Info{Kind: 1 + r.Intn(2), Room: r.Intn(120), Label: api.Label{S: []int{1 + r.Intn(9)}, I: []int{r.Intn(9) + 1, 20}}}
		least := 1
		for want[least] != nil {
			least++
		}
		if least == 9 {
			return
		}
		m, e := b.Make(i.Kind, i.Label, i.Room)
		if m != least || e != api.OK {
			t.Fatal(m, least, e)
		}
		want[m] = &plain{info: i}
	case 2:
		e := b.Free(n)
		if x == nil {
			is(t, e, api.ErrNone)
			return
		}
		must(t, e)
		delete(want, n)
	case 3, 4:
		size := r.Intn(5000) - 5
		if x != nil && r.Intn(2) == 0 {
			size = r.Intn(len(x.text) + 2)
		}
		e := b.Cut(n, size)
		switch {
		case x == nil:
			is(t, e, api.ErrNone)
		case size < 0 || size > len(x.text):
			is(t, e, api.ErrArg)
		default:
			must(t, e)
			x.text = x.text[:size]
		}
	default:
		at, p := r.Intn(6000)-5, letters(r.Intn(99), r.Intn(1+r.Intn(6300)))
		if x != nil && r.Intn(2) == 0 {
			at = r.Intn(len(x.text) + 100)
		}
		writes(t, b, n, at, p, x)
	}
}

func writes(t *testing.T, b *Base, n, at int, p []byte, x *plain) {
	t.Helper()
	f, _ := b.Blocks()
	e := b.Write(n, at, p)
	switch {
	case x == nil:
		is(t, e, api.ErrNone)
	case at < 0:
		is(t, e, api.ErrArg)
	case at+len(p) > 64*x.info.Room:
		is(t, e, api.ErrRoom)
	case len(p) == 0:
		must(t, e)
	case at+len(p)-min(at, len(x.text)) > 6144:
		is(t, e, api.ErrBig)
	default:
		more := (at+len(p)+63)/64 - (len(x.text)+63)/64
		if e == api.ErrFull && more > 0 && more+more/8+4 > f {
			return
		}
		must(t, e)
		for len(x.text) < at+len(p) {
			x.text = append(x.text, 0)
		}
		copy(x.text[at:], p)
	}
}

func matches(t *testing.T, b *Base, want map[int]*plain) {
	t.Helper()
	if len(b.Nodes()) != len(want) || !slices.IsSorted(b.Nodes()) {
		t.Fatal(b.Nodes())
	}
	least, most := 0, 0
	for n, x := range want {
		i, e := b.Info(n)
		if e != api.OK || i.Kind != x.info.Kind || i.Room != x.info.Room || !label.Same(i.Label, x.info.Label) {
			t.Fatal(n, i, e)
		}
		holds(t, b, n, x.text)
		k := (len(x.text) + 63) / 64
		least, most = least+k, most+k+k/8+1
	}
	if f, all := b.Blocks(); all-f < least || all-f > most {
		t.Fatal(f, least, most)
	}
	is(t, b.Check(), api.OK)
}

// TestCrashes: behind a crash at whatever write the nodes are as they were behind some transaction.
func TestCrashes(t *testing.T) {
	steps := []func(b *Base) api.Errno{
		func(b *Base) api.Errno { return second(b.Make(api.KFile, api.Label{S: []int{9}}, 100)) },
		func(b *Base) api.Errno { return b.Write(1, 10, letters(1, 4000)) },
		func(b *Base) api.Errno { return second(b.Make(api.KFolder, none, 50)) },
		func(b *Base) api.Errno { return b.Write(2, 0, letters(2, 200)) },
		func(b *Base) api.Errno { return b.Cut(1, 1000) },
		func(b *Base) api.Errno { return b.Write(1, 900, letters(3, 3000)) },
		func(b *Base) api.Errno { return b.Free(1) },
		func(b *Base) api.Errno { return second(b.Make(api.KFile, none, 2)) },
		func(b *Base) api.Errno { return b.Write(1, 100, letters(4, 28)) },
	}
	b, s := fresh(t, 500)
	stages := []told{tells(t, b)}
	for _, step := range steps {
		must(t, step(b))
		must(t, s.Commit())
		stages = append(stages, tells(t, b))
	}
	for fuse := range 500 {
		d := device(t, 500)
		b, s := opened(t, d)
		d.Fuse(fuse)
		done := true
		for _, step := range steps {
			if step(b) != api.OK || s.Commit() != api.OK || s.Sync() != api.OK {
				done = false
				break
			}
		}
		keep := []int{fuse % 7, fuse % 11, 301, 317 + fuse%50}
		d.Crash(fuse%2 == 0, keep)
		b, _ = opened(t, d)
		got := tells(t, b)
		if !slices.ContainsFunc(stages, func(x told) bool { return reflect.DeepEqual(x, got) }) {
			t.Fatal(fuse, got.nodes, got.infos, got.check)
		}
		if done {
			same(t, b, stages[len(stages)-1])
			return
		}
	}
	t.Error("never done")
}

func second(_ int, e api.Errno) api.Errno { return e }

// TestTransactionFull: where the store's transaction has no place for all of a call nothing of it is done, and what stood in the transaction goes on as if it had not been called.
func TestTransactionFull(t *testing.T) {
	b, s := fresh(t, 900)
	makes(t, b, 256, 1)
	makes(t, b, 256, 2)
	makes(t, b, 96, 3)
	must(t, b.Write(3, 0, letters(3, 6000)))
	must(t, s.Commit())
	twin, ts := fresh(t, 900)
	for i := range s.Size() {
		put(t, ts, i, get(t, s, i))
		if i%100 == 99 {
			must(t, ts.Commit())
		}
	}
	must(t, ts.Commit())
	for _, x := range []*Base{b, twin} {
		must(t, x.Write(1, 0, letters(1, 6144)))
	}
	before := tells(t, b)
	for i, do := range []func() api.Errno{
		func() api.Errno { return b.Write(2, 0, letters(2, 6144)) },
		func() api.Errno { return b.Write(2, 1000, letters(2, 3000)) },
		func() api.Errno { return b.Write(3, 0, letters(4, 6144)) },
		func() api.Errno { return b.Write(3, 64, letters(4, 3000)) },
		func() api.Errno { return b.Write(1, 6144, letters(4, 3000)) },
	} {
		if e := do(); e != api.ErrBig {
			t.Error(i, e)
		}
		same(t, b, before)
	}
	// The transaction has as much place left as in a Base that was never asked too much.
	for k := 0; ; k++ {
		n, e := b.Make(api.KFile, api.Label{S: []int{k + 1}}, 3)
		m, te := twin.Make(api.KFile, api.Label{S: []int{k + 1}}, 3)
		if n != m || e != te {
			t.Fatal(k, n, m, e, te)
		}
		same(t, b, tells(t, twin))
		if e != api.OK {
			is(t, e, api.ErrBig)
			if k == 0 {
				t.Error("no Make has place")
			}
			break
		}
	}
	is(t, b.Free(3), twin.Free(3))
	same(t, b, tells(t, twin))
	must(t, s.Commit())
	after := tells(t, b)
	must(t, b.Write(2, 0, letters(2, 6144)))
	s.Abort()
	same(t, b, after)
}

// TestTransactionFullAnywhere: whatever place is left in the transaction, each call is done whole, or not.
func TestTransactionFullAnywhere(t *testing.T) {
	for place := range 40 {
		b, s := fresh(t, 900)
		makes(t, b, 256, 1)
		makes(t, b, 256, 2)
		must(t, b.Write(1, 0, letters(1, 40*64)))
		must(t, b.Write(2, 0, letters(2, 35*64)))
		must(t, s.Commit())
		before := tells(t, b)
		for i, do := range []func() api.Errno{
			func() api.Errno { return second(b.Make(api.KFile, api.Label{S: []int{3}}, 3)) },
			func() api.Errno { return b.Write(1, 30, letters(4, 200)) },
			func() api.Errno { return b.Write(1, 39*64, letters(4, 30*64)) },
			func() api.Errno { return b.Cut(1, 50) },
			func() api.Errno { return b.Cut(2, 34*64) },
			func() api.Errno { return b.Free(2) },
		} {
			// Sectors of blocks that nobody has fill the transaction.
			for k := range api.MaxWrites - place {
				put(t, s, 899-k, letters(5, 64))
			}
			e := do()
			if e != api.OK {
				is(t, e, api.ErrBig)
				same(t, b, before)
			} else if b.Check() != api.OK || reflect.DeepEqual(tells(t, b), before) {
				t.Error(place, i, "done by half")
			}
			if place == 0 && e == api.OK || place > 38 && e != api.OK {
				t.Error(place, i, e)
			}
			for k := range api.MaxWrites - place {
				if !bytes.Equal(get(t, s, 899-k), letters(5, 64)) {
					t.Error(place, i, "what stood in the transaction is lost")
				}
			}
			s.Abort()
			same(t, b, before)
		}
	}
}

// Promise 6.4.

// TestOneTransaction: the greatest call of each kind stays within a transaction, be the bits spread as they may.
func TestOneTransaction(t *testing.T) {
	b, s := fresh(t, 7892)
	// Of each sector of bits a few are left, so that a Write takes of all of them.
	all := bytes.Repeat([]byte{0xff}, 64)
	all[63] = 0x01
	for i := range 14 {
		put(t, s, bitsAt+i, all)
	}
	must(t, s.Commit())
	n, e := b.Make(api.KFile, none, 256)
	must(t, e)
	must(t, s.Commit())
	want := []byte{}
	for at := 0; at+6144 <= 16384; at += 6144 {
		text := letters(at, 6144)
		must(t, b.Write(n, at, text))
		must(t, s.Commit())
		want = append(want, text...)
	}
	must(t, b.Write(n, 33, letters(9, 6144)))
	copy(want[33:], letters(9, 6144))
	holds(t, b, n, want)
	must(t, s.Commit())
	must(t, b.Cut(n, 1))
	s.Abort()
	must(t, b.Free(n))
	must(t, s.Commit())
	if l := b.Nodes(); len(l) != 0 {
		t.Error(l)
	}
}

// calls asks all of a Base, with whatever numbers.
func calls(b *Base, r *rand.Rand) {
	numbers := []int{-1, 0, 1, 2, 3, 63, 64, 65, 100, 5000, 6144, 6145, 16384, math.MaxInt, math.MinInt}
	any := func() int { return numbers[r.Intn(len(numbers))] }
	for range 12 {
		b.Info(any())
		b.Read(any(), any(), any())
		b.Write(1+r.Intn(64), r.Intn(3000), letters(1, r.Intn(7000)))
		b.Write(any(), any(), letters(1, r.Intn(99)))
		b.Cut(1+r.Intn(64), r.Intn(3000))
		b.Cut(any(), any())
		b.Free(any())
		b.Make(1, api.Label{S: []int{any()}}, any())
	}
	b.Blocks()
	b.Nodes()
	b.Check()
}

// TestAnyBytes: whatever bytes the store has, each call ends, and a call with an error changes nothing.
func TestAnyBytes(t *testing.T) {
	r := rand.New(rand.NewSource(4))
	for i := range 60 {
		b, s := fresh(t, 400+r.Intn(300))
		if i%2 == 0 {
			makes(t, b, 200, 1)
			must(t, b.Write(1, 0, letters(1, 6000)))
			makes(t, b, 10, 2)
			must(t, s.Commit())
		}
		for range 1 + r.Intn(120) {
			text := make([]byte, 64)
			for place := range text {
				if r.Intn(3) == 0 {
					text[place] = byte(r.Intn(256))
				}
			}
			at := r.Intn(s.Size())
			if r.Intn(2) == 0 {
				at = r.Intn(40)
			}
			s.Write(at, text)
		}
		s.Commit()
		calls(b, r)
	}
}

// TestFormErrors: a node that is none is told by ErrForm, and nothing is done to it.
func TestFormErrors(t *testing.T) {
	b, s := fresh(t, 500)
	makes(t, b, 100, 1)
	makes(t, b, 100, 2)
	must(t, b.Write(1, 0, letters(1, 40*64)))
	must(t, b.Write(2, 0, letters(2, 40*64)))
	must(t, s.Commit())
	sectors := func() []byte {
		var all []byte
		for i := range s.Size() {
			all = append(all, get(t, s, i)...)
		}
		return all
	}
	asForm := func(what string, read bool) {
		t.Helper()
		before := sectors()
		if text, e := b.Read(1, 0, 9); read && (text != nil || e != api.ErrForm) {
			t.Error(what, text, e)
		}
		is(t, b.Cut(1, 0), api.ErrForm)
		is(t, b.Free(1), api.ErrForm)
		is(t, b.Check(), api.ErrForm)
		if !bytes.Equal(before, sectors()) {
			t.Error(what, "something is done")
		}
		s.Abort()
	}
	w, e := b.readWords(headAt(1))
	must(t, e)
	list := w[30]
	w[0] = 7
	put(t, s, headAt(1), w.text())
	if i, e := b.Info(1); e != api.ErrForm || !reflect.DeepEqual(i, api.Info{}) {
		t.Error(i, e)
	}
	is(t, b.Write(1, 0, nil), api.ErrForm)
	asForm("kind", true)
	w[0], w[3] = 1, 200
	put(t, s, headAt(1), w.text())
	asForm("a block behind the last", true)
	put(t, s, own+list, bytes.Repeat([]byte{0xff}, 64))
	is(t, b.Write(1, 2560, []byte{1}), api.ErrForm)
	asForm("a list", true)
	// A block that is free already can't be given back, when others are.
	free := get(t, s, bitsAt)
	free[2] &^= 0x10
	put(t, s, bitsAt, free)
	asForm("a free block", false)
	put(t, s, headAt(1)+1, bytes.Repeat([]byte{0xff}, 64))
	if i, e := b.Info(1); e != api.ErrForm || !reflect.DeepEqual(i, api.Info{}) {
		t.Error(i, e)
	}
}

func TestDead(t *testing.T) {
	d := device(t, 500)
	b, s := opened(t, d)
	makes(t, b, 9, 1)
	must(t, b.Write(1, 0, letters(1, 99)))
	must(t, s.Commit())
	d.Fuse(0)
	is(t, s.Sync(), api.ErrDead)
	if n, e := b.Make(api.KFile, none, 1); n != 0 || e != api.ErrDead {
		t.Error(n, e)
	}
	if i, e := b.Info(1); e != api.ErrDead || !reflect.DeepEqual(i, api.Info{}) {
		t.Error(i, e)
	}
	if text, e := b.Read(1, 0, 1); text != nil || e != api.ErrDead {
		t.Error(text, e)
	}
	is(t, b.Write(1, 0, []byte{1}), api.ErrDead)
	is(t, b.Cut(1, 0), api.ErrDead)
	is(t, b.Free(1), api.ErrDead)
	is(t, b.Check(), api.ErrDead)
	if l := b.Nodes(); len(l) != 0 {
		t.Error(l)
	}
	if f, all := b.Blocks(); f != 0 || all != 200 {
		t.Error(f, all)
	}
}

// TestOthersMemory: what is handed in is neither changed nor kept, what is told is nobody else's.
func TestOthersMemory(t *testing.T) {
	b, _ := fresh(t, 500)
	l := api.Label{S: []int{1, 2, 99}[:2], I: []int{4}}
	n, e := b.Make(api.KFile, l, 9)
	must(t, e)
	p := letters(1, 200)
	must(t, b.Write(n, 5, p[:100]))
	if !bytes.Equal(p, letters(1, 200)) || !slices.Equal(l.S[:3], []int{1, 2, 99}) {
		t.Error("what is handed in is changed")
	}
	clear(p)
	l.S[0], l.I[0] = 50, 50
	before := tells(t, b)
	i, _ := b.Info(n)
	text, _ := b.Read(n, 0, 999)
	nodes := b.Nodes()
	if !slices.Equal(i.Label.S, []int{1, 2}) || !slices.Equal(i.Label.I, []int{4}) {
		t.Error(i)
	}
	i.Label.S[0], i.Label.I[0], nodes[0] = 7, 7, 7
	for _, l := range [][]int{i.Label.S[:cap(i.Label.S)], i.Label.I[:cap(i.Label.I)]} {
		for k := range l {
			l[k] = 8
		}
	}
	clear(text[:cap(text)])
	same(t, b, before)
	holds(t, b, n, append(make([]byte, 5), letters(1, 100)...))
}
