package alloc

import (
	"bytes"
	"math"
	"math/rand"
	"slices"
	"testing"

	"lazaret/api"
	"lazaret/dev"
	"lazaret/wal"
)

func filled(c byte) []byte { return bytes.Repeat([]byte{c}, api.Sector) }

func device(t testing.TB, sectors int) *dev.Device {
	t.Helper()
	d, e := dev.New(300 + sectors)
	if e != api.OK {
		t.Fatal(e)
	}
	return d
}

func opened(t testing.TB, d *dev.Device) *wal.Store {
	t.Helper()
	s, e := wal.Open(d)
	if e != api.OK {
		t.Fatal(e)
	}
	return s
}

func store(t testing.TB, sectors int) *wal.Store {
	t.Helper()
	return opened(t, device(t, sectors))
}

func made(t testing.TB, s *wal.Store, at, n int) *Map {
	t.Helper()
	m, e := New(s, at, n)
	if m == nil || e != api.OK {
		t.Fatal("New", at, n, e)
	}
	return m
}

func must(t testing.TB, e api.Errno) {
	t.Helper()
	if e != api.OK {
		t.Fatal(e)
	}
}

func put(t testing.TB, s *wal.Store, i int, b []byte) {
	t.Helper()
	must(t, s.Write(i, b))
}

func get(t testing.TB, s *wal.Store, i int) []byte {
	t.Helper()
	b, e := s.Read(i)
	must(t, e)
	return b
}

func takes(t testing.TB, m *Map, want int, wantErr api.Errno) {
	t.Helper()
	if i, e := m.Take(); i != want || e != wantErr {
		t.Fatal("Take", i, e, "not", want, wantErr)
	}
}

func gives(t testing.TB, m *Map, i int, want api.Errno) {
	t.Helper()
	if e := m.Give(i); e != want {
		t.Fatal("Give", i, e, "not", want)
	}
}

func isTaken(t testing.TB, m *Map, i int, want bool, wantErr api.Errno) {
	t.Helper()
	if is, e := m.Taken(i); is != want || e != wantErr {
		t.Fatal("Taken", i, is, e, "not", want, wantErr)
	}
}

func counts(t testing.TB, m *Map, want int, wantErr api.Errno) {
	t.Helper()
	if n, e := m.Count(); n != want || e != wantErr {
		t.Fatal("Count", n, e, "not", want, wantErr)
	}
}

// Promise 5.1.

func TestSectors(t *testing.T) {
	for n, want := range map[int]int{
		math.MinInt: 0, -512: 0, -1: 0, 0: 0, 1: 1, 511: 1, 512: 1, 513: 2, 1024: 2, 1025: 3, 8191: 16, 8192: 16, 8193: 17,
		math.MaxInt: 1 << 54, math.MaxInt - 510: 1 << 54, math.MaxInt - 511: 1<<54 - 1,
	} {
		if Sectors(n) != want {
			t.Error(n, Sectors(n), want)
		}
	}
}

func TestNewBounds(t *testing.T) {
	s := store(t, 20)
	for _, x := range [][2]int{{0, 1}, {19, 1}, {19, 512}, {18, 513}, {18, 1024}, {4, 8192}, {0, 8192}, {5, 7680}} {
		made(t, s, x[0], x[1])
	}
	for _, x := range [][2]int{
		{0, 0}, {0, -1}, {0, math.MinInt}, {0, 8193}, {0, math.MaxInt},
		{-1, 1}, {-1, 8192}, {math.MinInt, 1}, {math.MinInt, math.MaxInt},
		{20, 1}, {21, 1}, {19, 513}, {18, 1025}, {5, 8192}, {5, 7681}, {math.MaxInt, 1}, {math.MaxInt, 8192}, {math.MaxInt - 1, 8192},
	} {
		if m, e := New(s, x[0], x[1]); m != nil || e != api.ErrArg {
			t.Error(x, m, e)
		}
	}
	if m, e := New(nil, 0, 1); m != nil || e != api.ErrArg {
		t.Error(m, e)
	}
	if m, e := New(store(t, 1), 0, 513); m != nil || e != api.ErrArg {
		t.Error(m, e)
	}
}

// TestNewTouchesNothing: a Map is made on any sectors, as they are, and even where the device is dead.
func TestNewTouchesNothing(t *testing.T) {
	d := device(t, 3)
	s := opened(t, d)
	put(t, s, 1, filled(0xa5))
	must(t, s.Commit())
	must(t, s.Sync())
	calls := d.Calls()
	m := made(t, s, 1, 600)
	if d.Calls() != calls || len(d.Waiting()) > 0 {
		t.Error("New asks the device")
	}
	counts(t, m, 256, api.OK)
	if !bytes.Equal(get(t, s, 1), filled(0xa5)) || !bytes.Equal(get(t, s, 2), filled(0)) {
		t.Error("New writes")
	}
	d.Fuse(0)
	d.Flush()
	made(t, s, 1, 600)
	if m, e := New(s, 2, 600); m != nil || e != api.ErrArg {
		t.Error(m, e)
	}
}

// TestBits: each item is the bit that the document says, and turns no other one.
func TestBits(t *testing.T) {
	for _, n := range []int{1, 7, 8, 9, 511, 512, 513, 1000, 8192} {
		const at = 2
		s := store(t, at+Sectors(n)+1)
		m := made(t, s, at, n)
		want := make([]byte, 64*(at+Sectors(n)+1))
		put(t, s, at-1, filled(0x5a))
		copy(want[64*(at-1):], filled(0x5a))
		put(t, s, at+Sectors(n), filled(0xc3))
		copy(want[64*(at+Sectors(n)):], filled(0xc3))
		compare := func(i int) {
			t.Helper()
			var b []byte
			for k := range s.Size() {
				b = append(b, get(t, s, k)...)
			}
			if !bytes.Equal(b, want) {
				t.Fatal("not the bits of", n, "items at", i)
			}
		}
		for i := range n {
			isTaken(t, m, i, false, api.OK)
			takes(t, m, i, api.OK)
			isTaken(t, m, i, true, api.OK)
			want[64*at+i/8] |= 1 << (i % 8)
			if n <= 1000 || i%97 == 0 {
				compare(i)
				counts(t, m, i+1, api.OK)
			}
		}
		takes(t, m, 0, api.ErrFull)
		compare(n)
		counts(t, m, n, api.OK)
		for _, i := range rand.New(rand.NewSource(int64(n))).Perm(n)[:min(n, 200)] {
			gives(t, m, i, api.OK)
			want[64*at+i/8] &^= 1 << (i % 8)
			compare(i)
			gives(t, m, i, api.ErrArg)
			compare(i)
		}
	}
}

// TestExample is the one of the document.
func TestExample(t *testing.T) {
	m := made(t, store(t, 1), 0, 2)
	takes(t, m, 0, api.OK)
	takes(t, m, 1, api.OK)
	gives(t, m, 0, api.OK)
	takes(t, m, 0, api.OK)
	takes(t, m, 0, api.ErrFull)
}

func TestNoItems(t *testing.T) {
	for _, n := range []int{1, 8, 12, 512, 520} {
		s := store(t, 3)
		for i := range 3 {
			put(t, s, i, filled(0xff))
		}
		m := made(t, s, 1, n)
		for _, i := range []int{math.MinInt, -512, -8, -1, n, n + 1, n + 8, n + 512, 8192, math.MaxInt} {
			isTaken(t, m, i, false, api.ErrArg)
			gives(t, m, i, api.ErrArg)
		}
		for i := range 3 {
			if !bytes.Equal(get(t, s, i), filled(0xff)) {
				t.Error("a Give of no item changes sector", i)
			}
		}
	}
}

// TestBitsOfNoItems: those behind the last item are never taken, nor counted, nor changed.
func TestBitsOfNoItems(t *testing.T) {
	for _, n := range []int{1, 3, 8, 13, 504, 511, 512, 513, 700} {
		s := store(t, 2)
		bits := bytes.Repeat([]byte{0xff}, 128)
		for i := range n {
			bits[i/8] &^= 1 << (i % 8)
		}
		behind := slices.Clone(bits)
		load := func(b []byte) {
			put(t, s, 0, b[:64])
			put(t, s, 1, b[64:])
		}
		load(bits)
		m := made(t, s, 0, n)
		counts(t, m, 0, api.OK)
		for i := range n {
			takes(t, m, i, api.OK)
		}
		takes(t, m, 0, api.ErrFull)
		for i := range n {
			gives(t, m, i, api.OK)
		}
		if !bytes.Equal(append(get(t, s, 0), get(t, s, 1)...), behind) {
			t.Error(n, "what is behind the items is changed")
		}
		for i := range bits { // and likewise where all items are taken and the bits behind them are 0
			bits[i] = ^bits[i]
		}
		load(bits)
		counts(t, m, n, api.OK)
		takes(t, m, 0, api.ErrFull)
		if !bytes.Equal(append(get(t, s, 0), get(t, s, 1)...), bits) {
			t.Error(n, "what is behind the items is taken")
		}
	}
}

// TestLeast: wherever one bit alone is 0, Take finds it.
func TestLeast(t *testing.T) {
	const n = 1030
	s := store(t, 3)
	m := made(t, s, 0, n)
	for i := range 3 {
		put(t, s, i, filled(0xff))
	}
	for i := range n {
		gives(t, m, i, api.OK)
		counts(t, m, n-1, api.OK)
		takes(t, m, i, api.OK)
		takes(t, m, 0, api.ErrFull)
	}
	for _, i := range rand.New(rand.NewSource(1)).Perm(n) {
		gives(t, m, i, api.OK)
	}
	for i := range n {
		takes(t, m, i, api.OK)
	}
}

// TestOneWrite: Take and Give write one sector, that of the item, and only if they answer OK.
func TestOneWrite(t *testing.T) {
	s := store(t, 200)
	m := made(t, s, 0, 1536)
	for i := range 3 {
		put(t, s, i, filled(0xff))
	}
	must(t, s.Commit())
	fill := func(n int) { // of the 128 sectors of a transaction n are written
		for i := range n {
			put(t, s, 20+i, filled(1))
		}
	}
	fill(127)
	gives(t, m, 600, api.OK)
	takes(t, m, 600, api.OK)
	gives(t, m, 700, api.OK)
	gives(t, m, 800, api.OK)
	takes(t, m, 700, api.OK)
	gives(t, m, 5, api.ErrBig)
	gives(t, m, 1100, api.ErrBig)
	isTaken(t, m, 5, true, api.OK)
	isTaken(t, m, 1100, true, api.OK)
	counts(t, m, 1535, api.OK)
	s.Abort()

	fill(127)
	takes(t, m, 0, api.ErrFull)
	gives(t, m, -1, api.ErrArg)
	isTaken(t, m, 1, true, api.OK)
	counts(t, m, 1536, api.OK)
	put(t, s, 150, filled(1)) // none of them wrote: this is the 128th
	gives(t, m, 1, api.ErrBig)
	s.Abort()

	gives(t, m, 1, api.OK)
	must(t, s.Commit())
	fill(128)
	takes(t, m, 0, api.ErrBig)
	takes(t, m, 0, api.ErrBig)
	gives(t, m, 1, api.ErrArg)
	isTaken(t, m, 1, false, api.OK)
	counts(t, m, 1535, api.OK)
	must(t, s.Commit())
	takes(t, m, 1, api.OK)
}

func TestDead(t *testing.T) {
	d := device(t, 3)
	s := opened(t, d)
	m := made(t, s, 1, 600)
	takes(t, m, 0, api.OK)
	d.Fuse(0)
	d.Flush()
	takes(t, m, 0, api.ErrDead)
	counts(t, m, 0, api.ErrDead)
	for _, i := range []int{0, 1, 512, 599} {
		isTaken(t, m, i, false, api.ErrDead)
		gives(t, m, i, api.ErrDead)
	}
	for _, i := range []int{-1, 600, math.MaxInt, math.MinInt} { // what is no item is told of the arguments alone
		isTaken(t, m, i, false, api.ErrArg)
		gives(t, m, i, api.ErrArg)
	}
}

// Promise 5.2.

// TestAbort: all is as before, for each Map of the store and for one that is made anew.
func TestAbort(t *testing.T) {
	s := store(t, 5)
	m, other := made(t, s, 0, 1000), made(t, s, 3, 900)
	for i := range 600 {
		takes(t, m, i, api.OK)
	}
	takes(t, other, 0, api.OK)
	must(t, s.Commit())
	before := [][]byte{get(t, s, 0), get(t, s, 1), get(t, s, 2), get(t, s, 3), get(t, s, 4)}
	gives(t, m, 3, api.OK)
	gives(t, m, 520, api.OK)
	takes(t, m, 3, api.OK)
	takes(t, m, 520, api.OK)
	takes(t, m, 600, api.OK)
	gives(t, m, 7, api.OK)
	gives(t, other, 0, api.OK)
	counts(t, m, 600, api.OK)
	s.Abort()
	for i, b := range before {
		if !bytes.Equal(get(t, s, i), b) {
			t.Error("sector", i, "is not as before")
		}
	}
	for _, m := range []*Map{m, made(t, s, 0, 1000)} {
		counts(t, m, 600, api.OK)
		isTaken(t, m, 7, true, api.OK)
		isTaken(t, m, 600, false, api.OK)
	}
	isTaken(t, other, 0, true, api.OK)
	takes(t, m, 600, api.OK)
	takes(t, other, 1, api.OK)
}

// TestMapsApart: two Maps beside each other do not see what the other one takes; two of the same sectors do.
func TestMapsApart(t *testing.T) {
	s := store(t, 3)
	a, b, same := made(t, s, 0, 520), made(t, s, 2, 300), made(t, s, 0, 520)
	for i := range 520 {
		if i < 300 {
			takes(t, b, i, api.OK)
		}
		takes(t, []*Map{a, same}[i%2], i, api.OK)
	}
	takes(t, a, 0, api.ErrFull)
	takes(t, same, 0, api.ErrFull)
	takes(t, b, 0, api.ErrFull)
	gives(t, a, 5, api.OK)
	takes(t, b, 0, api.ErrFull)
	gives(t, b, 299, api.OK)
	takes(t, same, 5, api.OK)
	takes(t, b, 299, api.OK)
}

// TestModel: many calls, held against a plain list; nothing is taken twice, and Abort, Commit and crashes do with it what they do with the store.
func TestModel(t *testing.T) {
	for seed := range int64(80) {
		r := rand.New(rand.NewSource(seed))
		n := 1 + r.Intn(1+r.Intn(1500))
		at := r.Intn(4)
		d := device(t, at+Sectors(n)+r.Intn(2))
		s := opened(t, d)
		m := made(t, s, at, n)
		now := make([]bool, n)
		lasting := slices.Clone(now)
		committed := slices.Clone(now)
		for range 1500 {
			i := r.Intn(n+10) - 5
			switch k := r.Intn(40); {
			case k < 18:
				if want := slices.Index(now, false); want < 0 {
					takes(t, m, 0, api.ErrFull)
				} else {
					takes(t, m, want, api.OK)
					now[want] = true
				}
			case k < 18+int(seed%12):
				want := api.ErrArg
				if i >= 0 && i < n && now[i] {
					want, now[i] = api.OK, false
				}
				gives(t, m, i, want)
			case k < 33:
				if i < 0 || i >= n {
					isTaken(t, m, i, false, api.ErrArg)
				} else {
					isTaken(t, m, i, now[i], api.OK)
				}
			case k < 35:
				want := 0
				for _, is := range now {
					if is {
						want++
					}
				}
				counts(t, m, want, api.OK)
			case k < 37:
				must(t, s.Commit())
				committed = slices.Clone(now)
			case k < 38:
				s.Abort()
				now = slices.Clone(committed)
			case k < 39:
				must(t, s.Sync())
				lasting = slices.Clone(committed)
			case r.Intn(4) == 0:
				s.Abort()
				must(t, s.Sync())
				lasting = slices.Clone(committed)
				d.Crash(false, nil)
				s = opened(t, d)
				m = made(t, s, at, n)
				now, committed = slices.Clone(lasting), slices.Clone(lasting)
			}
		}
	}
}

// Promise 5.3.

// TestAnyBits: whatever the sectors have, calls tell what it means.
func TestAnyBits(t *testing.T) {
	for seed := range int64(200) {
		r := rand.New(rand.NewSource(seed))
		n := 1 + r.Intn(2000)
		s := store(t, Sectors(n))
		m := made(t, s, 0, n)
		var all []byte
		for i := range Sectors(n) {
			b := filled(0xff)
			for range r.Intn(100) {
				b[r.Intn(64)] = byte(r.Intn(256))
			}
			put(t, s, i, b)
			all = append(all, b...)
		}
		count, free := 0, -1
		for i := range n {
			is := all[i/8]>>(i%8)&1 == 1
			isTaken(t, m, i, is, api.OK)
			if is {
				count++
			} else if free < 0 {
				free = i
			}
		}
		counts(t, m, count, api.OK)
		if free < 0 {
			takes(t, m, 0, api.ErrFull)
		} else {
			takes(t, m, free, api.OK)
		}
	}
}

// TestEndsAndNeverPanics: no arguments, in no state of the store, end a call but by its answer.
func TestEndsAndNeverPanics(t *testing.T) {
	wild := []int{math.MinInt, math.MinInt + 1, -8193, -513, -1, 0, 1, 7, 8, 63, 64, 511, 512, 513, 8191, 8192, 8193, 1 << 32, math.MaxInt - 511, math.MaxInt}
	for fuse := -1; fuse < 4; fuse++ {
		d := device(t, 17)
		s := opened(t, d)
		d.Fuse(fuse)
		for _, at := range wild {
			for _, n := range wild {
				Sectors(n)
				if m, e := New(nil, at, n); m != nil || e != api.ErrArg {
					t.Error(at, n, e)
				}
				m, e := New(s, at, n)
				if (m == nil) != (e == api.ErrArg) || m != nil && e != api.OK {
					t.Error(at, n, e)
				}
				if m == nil {
					continue
				}
				m.Take()
				for _, i := range wild {
					m.Taken(i)
					m.Give(i)
				}
				m.Count()
				s.Commit()
				s.Sync()
			}
		}
	}
}
