package wal

import (
	"bytes"
	"math"
	"math/rand"
	"slices"
	"testing"

	"lazaret/api"
	"lazaret/dev"
)

func full(c byte) []byte { return bytes.Repeat([]byte{c}, api.Sector) }

func device(t testing.TB, n int) *dev.Device {
	t.Helper()
	d, e := dev.New(n)
	if e != api.OK {
		t.Fatal(e)
	}
	return d
}

func opened(t testing.TB, d *dev.Device) *Store {
	t.Helper()
	s, e := Open(d)
	if e != api.OK || s == nil {
		t.Fatal("Open", e)
	}
	return s
}

func must(t testing.TB, e api.Errno) {
	t.Helper()
	if e != api.OK {
		t.Fatal(e)
	}
}

// told is all that a store tells, one byte a sector: each sector must be of one byte alone.
func told(t testing.TB, s *Store) string {
	t.Helper()
	var out []byte
	for i := range s.Size() {
		b, e := s.Read(i)
		if e != api.OK || !bytes.Equal(b, full(b[0])) {
			t.Fatal("Read", i, e, b)
		}
		out = append(out, b[0])
	}
	return string(out)
}

func lost(d *dev.Device) *dev.Device {
	c := d.Copy()
	c.Crash(false, nil)
	return c
}

// Promise 4.1.

func TestRoom(t *testing.T) {
	for n, want := range map[int]int{math.MinInt: 0, -1: 0, 0: 0, 1: 0, 200: 0, 299: 0, 300: 0, 301: 1, 400: 100, 8192: 7892, math.MaxInt: math.MaxInt - 300} {
		if Room(n) != want {
			t.Error(n, Room(n))
		}
	}
}

func TestOpenWrong(t *testing.T) {
	refuse := func(d *dev.Device, want api.Errno) {
		t.Helper()
		if s, e := Open(d); s != nil || e != want {
			t.Error(s, e, want)
		}
	}
	dead := func(n int) *dev.Device {
		d := device(t, n)
		d.Fuse(0)
		d.Flush()
		return d
	}
	refuse(nil, api.ErrArg)
	refuse(device(t, 0), api.ErrArg)
	refuse(device(t, 300), api.ErrArg)
	refuse(dead(300), api.ErrArg)
	refuse(dead(301), api.ErrDead)
}

func TestOpenNew(t *testing.T) {
	for _, n := range []int{301, 302, 400, 8192} {
		d := device(t, n)
		d.Fuse(0) // nothing is to be brought home
		s := opened(t, d)
		if s.Size() != n-300 || told(t, s) != string(make([]byte, n-300)) {
			t.Error(n)
		}
		if all, lasting := s.Commits(); all != 0 || lasting != 0 {
			t.Error(all, lasting)
		}
	}
}

// TestOpenBringsHome: behind each end of a device the same is told a second time, and then nothing is to be done any more.
func TestOpenBringsHome(t *testing.T) {
	brought := 0
	for fuse := 0; ; fuse++ {
		d := device(t, 310)
		s := opened(t, d)
		d.Fuse(fuse)
		for i := range 10 {
			s.Write(i, full(byte(i+1)))
		}
		s.Commit()
		if s.Sync() == api.OK {
			break
		}
		d.Crash(false, nil)
		calls := d.Calls()
		x := told(t, opened(t, d))
		if d.Calls() > calls+11 {
			brought++
		}
		d = lost(d)
		d.Fuse(0)
		if y := told(t, opened(t, d)); x != y {
			t.Error(fuse, x, y)
		}
	}
	if brought == 0 {
		t.Error("nothing was brought home")
	}
}

// Promise 4.2.

func TestReadWriteAbort(t *testing.T) {
	d := device(t, 303)
	s := opened(t, d)
	for _, i := range []int{math.MinInt, -301, -1, 3, 4, 300, math.MaxInt} {
		if b, e := s.Read(i); b != nil || e != api.ErrArg {
			t.Error(i, e)
		}
		if e := s.Write(i, full(1)); e != api.ErrArg {
			t.Error(i, e)
		}
	}
	for _, n := range []int{0, 1, 63, 65, 128} {
		if e := s.Write(0, make([]byte, n)); e != api.ErrArg {
			t.Error(n, e)
		}
	}
	if s.Write(0, nil) != api.ErrArg || told(t, s) != "\x00\x00\x00" {
		t.Error("what is wrong was written")
	}
	must(t, s.Write(0, full(1)))
	must(t, s.Write(2, full(2)))
	must(t, s.Write(0, full(3)))
	if told(t, s) != "\x03\x00\x02" {
		t.Error(told(t, s))
	}
	s.Abort()
	if told(t, s) != "\x00\x00\x00" {
		t.Error(told(t, s))
	}
	must(t, s.Write(1, full(4)))
	must(t, s.Commit())
	must(t, s.Write(1, full(5)))
	must(t, s.Write(2, full(6)))
	s.Abort()
	s.Abort()
	if told(t, s) != "\x00\x04\x00" {
		t.Error(told(t, s))
	}
	must(t, s.Sync())
	if told(t, opened(t, lost(d))) != "\x00\x04\x00" {
		t.Error("aborted things came back")
	}
}

// TestSyncLeavesTheTransaction: what is under way is neither committed nor aborted by a Sync.
func TestSyncLeavesTheTransaction(t *testing.T) {
	d := device(t, 302)
	s := opened(t, d)
	must(t, s.Write(0, full(1)))
	must(t, s.Commit())
	must(t, s.Write(1, full(2)))
	must(t, s.Sync())
	if x := told(t, opened(t, lost(d))); x != "\x01\x00" {
		t.Errorf("%q", x)
	}
	if told(t, s) != "\x01\x02" {
		t.Errorf("%q", told(t, s))
	}
	must(t, s.Commit())
	must(t, s.Sync())
	if x := told(t, opened(t, lost(d))); x != "\x01\x02" {
		t.Errorf("%q", x)
	}
}

func TestBig(t *testing.T) {
	d := device(t, 600)
	s := opened(t, d)
	fill := func() {
		t.Helper()
		for i := range 128 {
			must(t, s.Write(2*i, full(byte(i))))
		}
		for _, i := range []int{1, 255, 256, 299} {
			if e := s.Write(i, full(1)); e != api.ErrBig {
				t.Error(i, e)
			}
			if b, e := s.Read(i); e != api.OK || b[0] != 0 {
				t.Error(i, b, e)
			}
		}
		if s.Write(300, full(1)) != api.ErrArg || s.Write(1, full(1)[1:]) != api.ErrArg {
			t.Error("ErrArg goes ahead of ErrBig")
		}
		for i := range 128 {
			must(t, s.Write(2*i, full(byte(i+1))))
		}
		if s.Write(1, full(1)) != api.ErrBig {
			t.Error("a sector that is written again counts twice")
		}
	}
	fill()
	s.Abort()
	fill()
	must(t, s.Commit())
	fill()
	must(t, s.Sync())
	if s.Write(1, full(1)) != api.ErrBig {
		t.Error("Sync ended the transaction")
	}
	must(t, s.Commit())
	must(t, s.Sync())
	s = opened(t, lost(d))
	for i := range 300 {
		want := byte(0)
		if i < 256 && i%2 == 0 {
			want = byte(i/2 + 1)
		}
		if b, e := s.Read(i); e != api.OK || !bytes.Equal(b, full(want)) {
			t.Error(i, b, e)
		}
	}
}

func TestCommits(t *testing.T) {
	d := device(t, 303)
	s := opened(t, d)
	count := func(want int, synced bool) {
		t.Helper()
		all, lasting := s.Commits()
		if all != want || lasting < 0 || lasting > all || synced && lasting != all {
			t.Error(all, lasting, want)
		}
	}
	for k := 1; k <= 100; k++ {
		if k%3 > 0 {
			must(t, s.Write(k%3, full(byte(k))))
		}
		must(t, s.Commit())
		count(k, false)
		if k%7 == 0 {
			must(t, s.Sync())
			count(k, true)
			must(t, s.Sync())
			count(k, true)
		}
	}
	must(t, s.Write(0, full(1)))
	s.Abort()
	count(100, false)
	must(t, s.Sync())
	count(100, true)
	s = opened(t, d)
	count(0, true)
	must(t, s.Commit())
	count(1, false)
	must(t, s.Sync())
	count(1, true)
	must(t, s.Write(0, full(1)))
	must(t, s.Commit())
	d.Fuse(0)
	if s.Sync() != api.ErrDead || s.Commit() != api.ErrDead {
		t.Error("no ErrDead")
	}
	count(2, false)
}

// answersDead: each call of a dead store that answers an error.
func answersDead(t *testing.T, s *Store) {
	t.Helper()
	for _, i := range []int{0, 1, -1, 1 << 40} {
		if b, e := s.Read(i); b != nil || e != api.ErrDead {
			t.Error(i, e)
		}
		if s.Write(i, full(1)) != api.ErrDead || s.Write(i, nil) != api.ErrDead {
			t.Error(i)
		}
	}
	s.Abort()
	if s.Commit() != api.ErrDead || s.Sync() != api.ErrDead || s.Size() != 2 {
		t.Error("a dead store goes on")
	}
}

func TestDead(t *testing.T) {
	for fuse := range 9 { // a dead device, wherever it died
		for _, notices := range []func(*Store){func(s *Store) { s.Sync() }, func(s *Store) {
			for range 20 {
				s.Write(0, full(1))
				s.Commit()
			}
		}} {
			d := device(t, 302)
			s := opened(t, d)
			must(t, s.Write(0, full(1)))
			must(t, s.Write(1, full(2)))
			must(t, s.Commit())
			must(t, s.Write(1, full(3)))
			d.Fuse(fuse)
			notices(s)
			if !d.Dead() {
				t.Error(fuse, "lives")
				continue
			}
			if fuse%2 == 0 {
				answersDead(t, s)
			}
			d.Crash(true, nil)
			answersDead(t, s)
		}
	}
	for _, first := range []func(*Store) api.Errno{
		func(s *Store) api.Errno { _, e := s.Read(0); return e },
		func(s *Store) api.Errno { return s.Write(0, full(1)) },
		func(s *Store) api.Errno { return s.Commit() },
		func(s *Store) api.Errno { return s.Sync() },
	} {
		d := device(t, 302)
		s := opened(t, d)
		must(t, s.Write(0, full(1)))
		d.Fuse(0)
		d.Flush() // it died of somebody else's call
		if e := first(s); e != api.ErrDead {
			t.Error(e)
		}
		d.Crash(false, nil)
		answersDead(t, s)
	}
}

// TestCommitThatFails: what failed is not counted, and neither there nor half there.
func TestCommitThatFails(t *testing.T) {
	for _, count := range []int{1, 100} {
		d := device(t, 300+200)
		s := opened(t, d)
		var state []string
		for k := 1; ; k++ {
			for i := range count {
				must(t, s.Write((k+i)%200, full(byte(k))))
			}
			if k > 40 {
				d.Fuse(0)
			}
			x := told(t, s)
			if e := s.Commit(); e != api.OK {
				if e != api.ErrDead {
					t.Error(e)
				}
				break
			}
			state = append(state, x)
		}
		all, lasting := s.Commits()
		if all != len(state) || lasting == 0 {
			t.Error(all, lasting)
		}
		d.Crash(false, nil)
		if told(t, opened(t, d)) != state[lasting-1] {
			t.Error(count, lasting)
		}
	}
}

// TestAgainstModel: many calls, held against a plain list.
func TestAgainstModel(t *testing.T) {
	for seed := range int64(60) {
		r := rand.New(rand.NewSource(seed))
		size := 1 + r.Intn(300)
		d := device(t, 300+size)
		s := opened(t, d)
		now, committed := make([]byte, size), make([]byte, size)
		touched := map[int]bool{}
		all, least := 0, 0
		for range 2000 {
			i, c := r.Intn(size), byte(r.Intn(256))
			switch k := r.Intn(100); {
			case k < 50:
				want := api.OK
				if !touched[i] && len(touched) == 128 {
					want = api.ErrBig
				}
				if e := s.Write(i, full(c)); e != want {
					t.Fatal(e, want)
				}
				if want == api.OK {
					now[i], touched[i] = c, true
				}
			case k < 80:
				if b, e := s.Read(i); e != api.OK || !bytes.Equal(b, full(now[i])) {
					t.Fatal(i, b, e, now[i])
				}
			case k < 80+int(seed%10):
				must(t, s.Commit())
				committed, all = slices.Clone(now), all+1
				clear(touched)
			case k < 92:
				s.Abort()
				now = slices.Clone(committed)
				clear(touched)
			case k < 96:
				must(t, s.Sync())
				least = all
			case k < 97:
				s.Abort()
				must(t, s.Sync())
				s = opened(t, d)
				now, all, least = slices.Clone(committed), 0, 0
				clear(touched)
			case k < 98:
				if told(t, s) != string(now) {
					t.Fatal("not as it should be")
				}
			default:
				if a, l := s.Commits(); a != all || l < least || l > a {
					t.Fatal(a, l, all, least)
				}
			}
		}
	}
}

// Promise 4.3, and W2.

// A history is what a store went through: how it was behind each commit (the last one perhaps under way only), and how many of those must be found behind a crash.
type history struct {
	states []string
	least  int
}

func (h *history) has(x string) bool { return slices.Contains(h.states[h.least:], x) }

// run does n transactions of some sectors each and tells what came of it; a Sync follows each one whose number is in syncs.
func run(t testing.TB, d *dev.Device, first byte, n int, syncs ...int) (*history, bool) {
	t.Helper()
	s, e := Open(d)
	if e != api.OK {
		t.Fatal(e)
	}
	h := &history{states: []string{told(t, s)}}
	base := 0
	for k := range n {
		c := first + byte(k)
		s.Write(k%s.Size(), full(c))
		s.Write((k+int(c))%s.Size(), full(c+100))
		h.states = append(h.states, told(t, s))
		if s.Commit() != api.OK {
			return h, false
		}
		if slices.Contains(syncs, k) {
			if s.Sync() != api.OK {
				_, lasting := s.Commits()
				h.least = max(base, lasting)
				return h, false
			}
			base = k + 1
		}
		_, lasting := s.Commits()
		h.least = max(base, lasting)
	}
	return h, true
}

// subsets hands out each choice among some sectors.
func subsets(t testing.TB, l []int, f func(keep []int)) {
	t.Helper()
	if len(l) > 8 {
		t.Fatal("too many wait", len(l))
	}
	for bits := range 1 << len(l) {
		var keep []int
		for k, i := range l {
			if bits&(1<<k) != 0 {
				keep = append(keep, i)
			}
		}
		f(keep)
	}
}

// crashes hands out each device that a crash may leave of work that stops at each call of its own.
func crashes(t testing.TB, d *dev.Device, work func(c *dev.Device) bool, f func(c *dev.Device)) {
	t.Helper()
	for fuse := 0; ; fuse++ {
		c := d.Copy()
		c.Fuse(fuse)
		done := work(c)
		subsets(t, c.Waiting(), func(keep []int) {
			k := c.Copy()
			k.Crash(false, keep)
			f(k)
		})
		if done {
			return
		}
	}
}

// TestEachCrash: each crash of some transactions, of the Open behind it, and of transactions behind that.
func TestEachCrash(t *testing.T) {
	ends := 0
	found := map[string]bool{}
	look := func(d *dev.Device, h *history) {
		x := told(t, opened(t, d))
		found[x] = true
		if ends++; !h.has(x) {
			t.Fatalf("%q is none of %q from %d on", x, h.states, h.least)
		}
	}
	start := device(t, 303)
	var h *history
	crashes(t, start, func(c *dev.Device) (done bool) {
		h, done = run(t, c, 1, 3, 0, 2)
		return done
	}, func(d *dev.Device) {
		look(d.Copy(), h)
		crashes(t, d, func(c *dev.Device) bool {
			_, e := Open(c)
			return e == api.OK
		}, func(c *dev.Device) { look(c, h) })
		var next *history
		crashes(t, lost(d), func(c *dev.Device) (done bool) {
			if _, e := Open(c); e != api.OK {
				next = h
				return false
			}
			next, done = run(t, c, 50, 2, 0, 1)
			return done
		}, func(c *dev.Device) { look(c, next) })
	})
	if ends < 1000 || len(found) < 6 {
		t.Error(ends, len(found))
	}
}

// TestFewSyncs: transactions that are settled because there are many of them, or great ones.
func TestFewSyncs(t *testing.T) {
	for seed := range int64(400) {
		r := rand.New(rand.NewSource(seed))
		size := 1 + r.Intn(200)
		d := device(t, 300+size)
		most := 1 + r.Intn(min(128, size))
		h := &history{states: []string{string(make([]byte, size))}}
		for range 4 {
			s := opened(t, d)
			x := told(t, s)
			if !h.has(x) {
				t.Fatal(seed, "lost", h.least, len(h.states))
			}
			if y := told(t, opened(t, d)); x != y {
				t.Fatal(seed, "a second Open tells else")
			}
			h = &history{states: []string{x}}
			d.Fuse(r.Intn(3000))
			for k := range 60 {
				for i := range r.Intn(most + 1) {
					s.Write((k*31+i)%size, full(byte(k+1)))
				}
				if d.Dead() {
					break
				}
				h.states = append(h.states, told(t, s))
				if s.Commit() != api.OK {
					break
				}
				if r.Intn(9) == 0 {
					s.Sync()
				}
				_, h.least = s.Commits()
			}
			var keep []int
			for _, i := range d.Waiting() {
				if r.Intn(2) == 0 {
					keep = append(keep, i)
				}
			}
			d.Crash(false, keep)
			for range r.Intn(3) { // crashes in Open
				d.Fuse(r.Intn(300))
				Open(d)
				d.Crash(r.Intn(2) == 0, keep)
			}
		}
	}
}

// TestGreatTransactions: of 128 sectors each, far from one another, so that few of them find a place in the log.
func TestGreatTransactions(t *testing.T) {
	done := false
	for fuse := 0; !done; fuse += 97 {
		for _, flip := range []bool{false, true} {
			d := device(t, 8192)
			s := opened(t, d)
			d.Fuse(fuse)
			h := &history{states: []string{told(t, s)}}
			for k := 1; k < 12 && !d.Dead(); k++ {
				for i := range 128 {
					must(t, s.Write((k*128+i)*37%7892, full(byte(k))))
				}
				h.states = append(h.states, told(t, s))
				s.Commit()
				_, h.least = s.Commits()
			}
			done = s.Sync() == api.OK
			_, h.least = s.Commits()
			d.Crash(flip, nil)
			if !h.has(told(t, opened(t, d))) {
				t.Fatal(fuse, flip, h.least)
			}
		}
	}
}

// TestSyncKeeps: what was synced is there whatever is lost.
func TestSyncKeeps(t *testing.T) {
	d := device(t, 320)
	s := opened(t, d)
	for k := range 50 {
		must(t, s.Write(k%20, full(byte(k+1))))
		must(t, s.Commit())
		must(t, s.Sync())
		x := told(t, s)
		if told(t, opened(t, lost(d))) != x {
			t.Fatal(k)
		}
	}
}

// TestManyCommits: what waits does not grow with the commits.
func TestManyCommits(t *testing.T) {
	d := device(t, 301)
	s := opened(t, d)
	for k := range 100000 {
		must(t, s.Write(0, full(byte(k))))
		must(t, s.Commit())
		if len(s.waits) > maxWaits {
			t.Fatal(len(s.waits))
		}
	}
	for range 100000 {
		must(t, s.Commit())
	}
	if all, _ := s.Commits(); all != 200000 || len(s.waits) > maxWaits {
		t.Error(all, len(s.waits))
	}
}

// Promise 4.4.

// TestHeadStandsAlone: where the head waits to be written, nothing else waits, and no call leaves anything waiting.
func TestHeadStandsAlone(t *testing.T) {
	heads := 0
	for fuse := 0; ; fuse++ {
		d := device(t, 310)
		d.Fuse(fuse)
		_, done := run(t, d, 1, 30, 3, 9)
		if l := d.Waiting(); slices.Contains(l, head) {
			heads++
			if len(l) > 1 {
				t.Error(fuse, l)
			}
		}
		if done {
			if len(d.Waiting()) > 0 {
				t.Error(d.Waiting())
			}
			break
		}
	}
	if heads < 4 {
		t.Error(heads)
	}
}

// committed is a device that died when the head of a transaction was lasting, and nothing was brought home; behind it the same device without the head.
func committed(t *testing.T, write map[int]byte, size int) (with, without *dev.Device) {
	t.Helper()
	for fuse := 0; ; fuse++ {
		d := device(t, 300+size)
		s := opened(t, d)
		for i, c := range write {
			must(t, s.Write(i, full(c)))
		}
		must(t, s.Commit())
		d.Fuse(fuse)
		if s.Sync() == api.OK {
			t.Fatal("the head was never alone")
		}
		d.Crash(false, nil)
		if b, _ := d.Read(head); b[0] == 0 {
			without = d
			continue
		}
		return d, without
	}
}

// TestHeadDecides: all that is in the log is nothing without the head, and with the head it is told as it stands there, whatever was done to it.
func TestHeadDecides(t *testing.T) {
	with, without := committed(t, map[int]byte{0: 7, 2: 9}, 3)
	if told(t, opened(t, with.Copy())) != "\x07\x00\x09" || told(t, opened(t, without)) != "\x00\x00\x00" {
		t.Error("the head does not decide")
	}
	with.Write(contents+1, full(5))
	with.Flush()
	if x := told(t, opened(t, with)); x != "\x07\x00\x05" {
		t.Errorf("%q", x)
	}
	d := device(t, 303)
	d.Write(contents, full(7))
	d.Flush()
	if x := told(t, opened(t, d)); x != "\x00\x00\x00" {
		t.Errorf("%q", x)
	}
}

// TestHeadThatWaits: a head that Open finds waiting may be lost in a crash of Open, but not when something is kept of what it stands for.
func TestHeadThatWaits(t *testing.T) {
	d, _ := committed(t, map[int]byte{0: 7, 2: 9}, 3)
	b, _ := d.Read(head)
	d.Write(head, full(0))
	d.Flush()
	d.Write(head, b)
	found := map[string]bool{}
	crashes(t, d, func(c *dev.Device) bool {
		_, e := Open(c)
		return e == api.OK
	}, func(c *dev.Device) { found[told(t, opened(t, c))] = true })
	if len(found) != 2 || !found["\x00\x00\x00"] || !found["\x07\x00\x09"] {
		t.Error(found)
	}
}

// Promise 4.5, and W9.

func TestWhatIsHandedInStays(t *testing.T) {
	s := opened(t, device(t, 302))
	room := append(full(3), 2, 3, 4)
	b := room[:api.Sector]
	must(t, s.Write(0, b))
	if !bytes.Equal(room, append(full(3), 2, 3, 4)) {
		t.Error("changed what was handed in")
	}
	b[0] = 9
	if told(t, s)[0] != 3 {
		t.Error("kept what was handed in")
	}
	must(t, s.Commit())
	b[1] = 9
	must(t, s.Sync())
	b[2] = 9
	if told(t, s)[0] != 3 || !bytes.Equal(room[64:], []byte{2, 3, 4}) {
		t.Error("kept or changed what was handed in")
	}
}

func TestWhatIsToldIsNew(t *testing.T) {
	s := opened(t, device(t, 302))
	spoil := func() {
		t.Helper()
		x := told(t, s)
		for i := range 2 {
			b, _ := s.Read(i)
			c, _ := s.Read(i)
			b = b[:cap(b)]
			for k := range b {
				b[k] ^= 255
			}
			if !bytes.Equal(c, full(x[i])) {
				t.Error("two answers share")
			}
		}
		if told(t, s) != x {
			t.Error("what was told is still the store's")
		}
	}
	spoil()
	must(t, s.Write(0, full(1)))
	spoil()
	must(t, s.Commit())
	spoil()
	must(t, s.Sync())
	spoil()
}

// TestAnyImage: whatever bytes the device bears, Open tells something, the same a second time, and goes on from there.
func TestAnyImage(t *testing.T) {
	for seed := range int64(3000) {
		r := rand.New(rand.NewSource(seed))
		size := 1 + r.Intn(40)
		d := device(t, 300+size)
		for i := range d.Size() {
			b := full(byte(r.Intn(256)))
			if i == head && r.Intn(4) > 0 {
				b = slices.Clone(full(0))
				b[0], b[1] = byte(r.Intn(300)), byte(r.Intn(2)*r.Intn(2))
			}
			if i >= numbers && i < contents && r.Intn(9) > 0 {
				b = full(0)
				for k := range perSector {
					b[2*k] = byte(r.Intn(size + r.Intn(2)*r.Intn(2)))
				}
			}
			d.Write(i, b)
		}
		if seed%2 == 0 {
			d.Flush()
		}
		x := told(t, opened(t, d))
		d = lost(d)
		if y := told(t, opened(t, d)); x != y {
			t.Fatal(seed, "a second Open tells else")
		}
		d.Fuse(r.Intn(12))
		h, _ := run(t, d, 1, 1, 0)
		var keep []int
		for _, i := range d.Waiting() {
			if r.Intn(2) == 0 {
				keep = append(keep, i)
			}
		}
		d.Crash(false, keep)
		if y := told(t, opened(t, d)); !h.has(y) {
			t.Fatalf("%d: %q is none of %q", seed, y, h.states)
		}
	}
}

// TestLogOfNobody: a log of too many sectors, or with one that is not there, is no half log.
func TestLogOfNobody(t *testing.T) {
	for _, c := range []struct {
		at, place, number int
	}{{numbers, 0, 3}, {numbers, 1, 3}, {numbers, 2, 3}, {numbers, 2, 256}, {numbers, 2, 65535}, {head, 0, 257}, {head, 0, 300}, {head, 0, 356}, {head, 0, 65535}} {
		with, _ := committed(t, map[int]byte{0: 0, 1: 8, 2: 9}, 3)
		b, _ := with.Read(c.at)
		b[2*c.place], b[2*c.place+1] = byte(c.number), byte(c.number>>8)
		with.Write(c.at, b)
		with.Flush()
		if x := told(t, opened(t, with)); x != "\x00\x00\x00" {
			t.Errorf("%v: %q", c, x)
		}
		if b, _ := with.Read(head); !bytes.Equal(b, full(0)) {
			t.Error(c, "its head stays")
		}
	}
}

func TestAnyCallsEnd(t *testing.T) {
	numbersAsked := []int{math.MinInt, -1, 0, 1, 2, 3, 299, math.MaxInt}
	for seed := range int64(200) {
		r := rand.New(rand.NewSource(seed))
		d := device(t, 300+r.Intn(5))
		s, e := Open(d)
		for range 300 {
			if e != api.OK {
				d.Crash(r.Intn(2) == 0, numbersAsked)
				if s, e = Open(d); e == api.ErrArg {
					break
				}
				continue
			}
			switch i := numbersAsked[r.Intn(len(numbersAsked))]; r.Intn(9) {
			case 0, 1:
				s.Read(i)
			case 2, 3:
				s.Write(i, make([]byte, 60+r.Intn(6)))
			case 4:
				s.Commit()
			case 5:
				s.Abort()
			case 6:
				s.Sync()
			case 7:
				d.Fuse(r.Intn(40))
			case 8:
				s, e = Open(d)
			}
		}
	}
}
