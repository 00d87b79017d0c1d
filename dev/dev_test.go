package dev

import (
	"bytes"
	"math"
	"math/rand"
	"slices"
	"testing"

	"lazaret/api"
)

func filled(c byte) []byte { return bytes.Repeat([]byte{c}, api.Sector) }

func made(t *testing.T, n int) *Device {
	t.Helper()
	d, e := New(n)
	if d == nil || e != api.OK {
		t.Fatalf("New(%d): %v", n, e)
	}
	return d
}

func write(t *testing.T, d *Device, i int, c byte) {
	t.Helper()
	if e := d.Write(i, filled(c)); e != api.OK {
		t.Fatalf("Write(%d): %v", i, e)
	}
}

func flush(t *testing.T, d *Device) {
	t.Helper()
	if e := d.Flush(); e != api.OK {
		t.Fatalf("Flush: %v", e)
	}
}

// expect looks at every sector: each is filled with the byte that stands for it in want.
func expect(t *testing.T, d *Device, want ...byte) {
	t.Helper()
	if d.Size() != len(want) {
		t.Fatalf("Size %d, want %d", d.Size(), len(want))
	}
	for i, c := range want {
		if b, e := d.Read(i); e != api.OK || !bytes.Equal(b, filled(c)) {
			t.Errorf("sector %d: %v, %v, want all %d", i, b, e, c)
		}
	}
}

func waiting(t *testing.T, d *Device, want ...int) {
	t.Helper()
	if w := d.Waiting(); !slices.Equal(w, want) {
		t.Errorf("Waiting %v, want %v", w, want)
	}
}

// Promise 1.1.

func TestNewBounds(t *testing.T) {
	for _, n := range []int{math.MinInt, -8192, -1, 8193, 1 << 32, math.MaxInt} {
		if d, e := New(n); d != nil || e != api.ErrArg {
			t.Errorf("New(%d): %v, %v", n, d, e)
		}
	}
	for _, n := range []int{0, 1, 8192} {
		d := made(t, n)
		expect(t, d, make([]byte, n)...)
		if d.Dead() {
			t.Errorf("New(%d) is dead", n)
		}
		waiting(t, d)
	}
	d := made(t, 8192)
	if d.Calls() != 0 {
		t.Error("Calls of a new device", d.Calls())
	}
}

func TestNoSectors(t *testing.T) {
	d := made(t, 0)
	if _, e := d.Read(0); e != api.ErrArg {
		t.Error("Read", e)
	}
	if e := d.Write(0, filled(1)); e != api.ErrArg {
		t.Error("Write", e)
	}
	flush(t, d)
	d.Crash(true, []int{0})
	d.Crash(false, []int{0})
	if d.Size() != 0 || d.Calls() != 1 {
		t.Error(d.Size(), d.Calls())
	}
}

func TestReadTellsTheLastWrite(t *testing.T) {
	d := made(t, 3)
	write(t, d, 2, 'a')
	expect(t, d, 0, 0, 'a')
	write(t, d, 2, 'b')
	expect(t, d, 0, 0, 'b')
	flush(t, d)
	expect(t, d, 0, 0, 'b')
	write(t, d, 2, 'c')
	write(t, d, 0, 'd')
	expect(t, d, 'd', 0, 'c')
}

func TestReadTellsEachByte(t *testing.T) {
	d := made(t, 1)
	b := make([]byte, api.Sector)
	for i := range b {
		b[i] = byte(255 - 3*i)
	}
	if e := d.Write(0, b); e != api.OK {
		t.Fatal(e)
	}
	for range 2 {
		if got, e := d.Read(0); e != api.OK || !bytes.Equal(got, b) {
			t.Error(got, e)
		}
		flush(t, d)
	}
}

func TestWrongSectors(t *testing.T) {
	d := made(t, 4)
	write(t, d, 3, 'a')
	for _, i := range []int{math.MinInt, -1, 4, 8192, 1 << 32, math.MaxInt} {
		if b, e := d.Read(i); len(b) != 0 || e != api.ErrArg {
			t.Errorf("Read(%d): %v, %v", i, b, e)
		}
		if e := d.Write(i, filled(1)); e != api.ErrArg {
			t.Errorf("Write(%d): %v", i, e)
		}
	}
	for _, n := range []int{0, 1, 63, 65, 128} {
		if e := d.Write(1, make([]byte, n)); e != api.ErrArg {
			t.Errorf("Write of %d bytes: %v", n, e)
		}
	}
	if e := d.Write(1, nil); e != api.ErrArg {
		t.Error("Write of nil", e)
	}
	if d.Calls() != 1 {
		t.Error("refused calls were counted", d.Calls())
	}
	waiting(t, d, 3)
	expect(t, d, 0, 0, 0, 'a')
}

func TestWaitingRises(t *testing.T) {
	d := made(t, 300)
	var want []int
	for i := 299; i >= 0; i -= 7 {
		write(t, d, i, 1)
		write(t, d, i, 2)
		want = append(want, i)
	}
	slices.Reverse(want)
	waiting(t, d, want...)
	flush(t, d)
	waiting(t, d)
}

func TestWhatIsWrittenAgainWaits(t *testing.T) {
	d := made(t, 2)
	write(t, d, 1, 0)
	waiting(t, d, 1)
	flush(t, d)
	write(t, d, 1, 0)
	waiting(t, d, 1)
}

func TestCallsCountsWhatWentWell(t *testing.T) {
	d := made(t, 1)
	for range 3 {
		d.Read(0)
		d.Write(0, filled(1))
		d.Flush()
		d.Waiting()
		d.Size()
		d.Dead()
		d.Copy()
	}
	if d.Calls() != 9 {
		t.Error(d.Calls())
	}
	d.Fuse(0)
	d.Write(0, filled(2))
	d.Flush()
	d.Read(0)
	if d.Calls() != 9 {
		t.Error("calls of a dead device were counted", d.Calls())
	}
	d.Crash(true, nil)
	d.Read(0)
	if d.Calls() != 10 {
		t.Error("a crash changes the count", d.Calls())
	}
}

// Promise 1.2.

func TestFuseLetsSoManyGoOn(t *testing.T) {
	for k := range 6 {
		d := made(t, 2)
		d.Fuse(k)
		for i := range k {
			if i%2 == 0 {
				write(t, d, 0, byte(i+1))
			} else {
				flush(t, d)
			}
			d.Read(0)
		}
		if d.Dead() {
			t.Errorf("Fuse(%d): dead ahead of its time", k)
		}
		before, calls := d.Waiting(), d.Calls()
		if k%2 == 0 {
			if e := d.Write(1, filled(9)); e != api.ErrDead {
				t.Errorf("Fuse(%d): Write %v", k, e)
			}
		} else if e := d.Flush(); e != api.ErrDead {
			t.Errorf("Fuse(%d): Flush %v", k, e)
		}
		if !d.Dead() || d.Calls() != calls {
			t.Errorf("Fuse(%d): Dead %v, Calls %d", k, d.Dead(), d.Calls())
		}
		waiting(t, d, before...)
	}
}

func TestRefusedCallsSpareTheFuse(t *testing.T) {
	d := made(t, 1)
	d.Fuse(1)
	for range 3 {
		if d.Write(1, filled(1)) != api.ErrArg || d.Write(0, nil) != api.ErrArg {
			t.Error("Write")
		}
	}
	write(t, d, 0, 1)
	if e := d.Write(-1, filled(1)); e != api.ErrArg || d.Dead() {
		t.Error("a call that is refused anyway finds the device dead", e)
	}
	for range 3 {
		expect(t, d, 1)
	}
	if d.Write(0, filled(2)) != api.ErrDead || !d.Dead() {
		t.Error("Fuse(1)")
	}
}

func TestDeadAnswersErrDeadFirst(t *testing.T) {
	d := made(t, 2)
	write(t, d, 1, 1)
	d.Fuse(0)
	d.Flush()
	for _, i := range []int{-1, 0, 1, 2} {
		if b, e := d.Read(i); len(b) != 0 || e != api.ErrDead {
			t.Errorf("Read(%d): %v, %v", i, b, e)
		}
		if e := d.Write(i, nil); e != api.ErrDead {
			t.Errorf("Write(%d): %v", i, e)
		}
	}
	d.Fuse(5)
	d.Fuse(-1)
	if d.Flush() != api.ErrDead || !d.Dead() {
		t.Error("a fuse has woken the dead")
	}
	waiting(t, d, 1)
	if d.Size() != 2 {
		t.Error(d.Size())
	}
	d.Crash(false, nil)
	expect(t, d, 0, 0)
}

func TestNoFuse(t *testing.T) {
	d := made(t, 1)
	for i := range 5000 {
		write(t, d, 0, byte(i))
		flush(t, d)
	}
	for _, k := range []int{-1, -2, math.MinInt} {
		d := made(t, 1)
		d.Fuse(0)
		d.Fuse(k)
		for i := range 50 {
			write(t, d, 0, byte(i))
			flush(t, d)
		}
		expect(t, d, 49)
	}
	d = made(t, 1)
	d.Fuse(math.MaxInt)
	write(t, d, 0, 1)
	flush(t, d)
	d.Fuse(1)
	d.Fuse(2)
	write(t, d, 0, 2)
	write(t, d, 0, 3)
	if d.Flush() != api.ErrDead {
		t.Error("the last Fuse does not hold")
	}
}

func TestCrashTakesTheFuse(t *testing.T) {
	for _, k := range []int{0, 1, 2} {
		d := made(t, 1)
		d.Fuse(k)
		write := func() api.Errno { return d.Write(0, filled('a')) }
		write()
		d.Crash(true, nil)
		for range 5 {
			if d.Dead() || write() != api.OK || d.Flush() != api.OK {
				t.Errorf("Fuse(%d) outlives the crash", k)
			}
		}
	}
}

func TestCrashKeepsTheChosen(t *testing.T) {
	for _, c := range []struct {
		flip bool
		l    []int
		want string
	}{
		{false, nil, "ab0"},
		{true, nil, "xyz"},
		{false, []int{}, "ab0"},
		{true, []int{}, "xyz"},
		{false, []int{1}, "ay0"},
		{true, []int{1}, "xbz"},
		{false, []int{2, 0}, "xbz"},
		{true, []int{2, 0}, "ay0"},
		{false, []int{2, 1, 2, 2}, "ayz"},
		{true, []int{2, 1, 2, 2}, "xb0"},
		{false, []int{0, 1, 2}, "xyz"},
		{true, []int{0, 1, 2}, "ab0"},
		{false, []int{-1, 3, math.MaxInt, math.MinInt, 0}, "xb0"},
		{true, []int{-1, 3, math.MaxInt, math.MinInt, 0}, "ayz"},
	} {
		d := made(t, 3)
		write(t, d, 0, 'a')
		write(t, d, 1, 'b')
		write(t, d, 2, '0')
		flush(t, d)
		write(t, d, 1, '?')
		for i, b := range []byte("xyz") {
			write(t, d, i, b)
		}
		d.Crash(c.flip, c.l)
		waiting(t, d)
		expect(t, d, []byte(c.want)...)
		d.Crash(false, nil)
		expect(t, d, []byte(c.want)...)
	}
}

func TestCrashOfWhatDoesNotWait(t *testing.T) {
	d := made(t, 2)
	write(t, d, 0, 'a')
	flush(t, d)
	d.Crash(false, []int{0, 1})
	expect(t, d, 'a', 0)
	d.Crash(true, []int{0, 1})
	expect(t, d, 'a', 0)
}

func TestExamples(t *testing.T) {
	d := made(t, 2)
	write(t, d, 1, 'a')
	d.Crash(false, []int{0})
	expect(t, d, 0, 0)
	write(t, d, 1, 'a')
	d.Crash(true, []int{0})
	expect(t, d, 0, 'a')
}

func TestCopyIsTheSame(t *testing.T) {
	d := made(t, 3)
	write(t, d, 0, 'a')
	flush(t, d)
	write(t, d, 1, 'b')
	d.Fuse(1)
	c := d.Copy()
	if c.Size() != 3 || c.Calls() != d.Calls() || c.Dead() {
		t.Error(c.Size(), c.Calls(), c.Dead())
	}
	waiting(t, c, 1)
	if c.Flush() != api.OK || c.Flush() != api.ErrDead || d.Dead() {
		t.Error("the fuse of a copy")
	}
	dead := c.Copy()
	if !dead.Dead() || dead.Flush() != api.ErrDead {
		t.Error("the copy of a dead device")
	}
	c.Crash(false, nil)
	expect(t, c, 'a', 'b', 0)
	d.Crash(false, nil)
	expect(t, d, 'a', 0, 0)
}

func TestCopyGoesItsOwnWay(t *testing.T) {
	d := made(t, 2)
	write(t, d, 0, 'a')
	flush(t, d)
	write(t, d, 1, 'b')
	c := d.Copy()
	write(t, c, 0, 'x')
	write(t, c, 1, 'y')
	waiting(t, d, 1)
	waiting(t, c, 0, 1)
	expect(t, d, 'a', 'b')
	expect(t, c, 'x', 'y')
	flush(t, c)
	write(t, d, 0, 'v')
	flush(t, d)
	expect(t, d, 'v', 'b')
	expect(t, c, 'x', 'y')
}

// Promise 1.3.

func TestFlushedStays(t *testing.T) {
	d := made(t, 3)
	write(t, d, 0, 'a')
	write(t, d, 1, 'b')
	flush(t, d)
	for range 3 {
		d.Crash(false, nil)
		d.Crash(true, []int{0, 1, 2})
		expect(t, d, 'a', 'b', 0)
	}
	write(t, d, 0, 'c')
	d.Crash(false, []int{1})
	expect(t, d, 'a', 'b', 0)
	write(t, d, 0, 'c')
	flush(t, d)
	d.Crash(false, nil)
	expect(t, d, 'c', 'b', 0)
}

// model tells by plain lists what a device ought to tell.
type model struct {
	last, now []byte
	waits     []bool
	fuse      int
	dead      bool
	calls     int
}

func (m *model) may() api.Errno {
	if m.dead || m.fuse == 0 {
		m.dead = true
		return api.ErrDead
	}
	m.fuse--
	m.calls++
	return api.OK
}

func (m *model) write(i int, c byte) api.Errno {
	if !m.dead && (i < 0 || i >= len(m.now)) {
		return api.ErrArg
	}
	e := m.may()
	if e == api.OK {
		m.now[i], m.waits[i] = c, true
	}
	return e
}

func (m *model) flush() api.Errno {
	e := m.may()
	if e == api.OK {
		copy(m.last, m.now)
		clear(m.waits)
	}
	return e
}

func (m *model) crash(flip bool, l []int) {
	for i, w := range m.waits {
		if w && slices.Contains(l, i) != flip {
			m.last[i] = m.now[i]
		}
	}
	copy(m.now, m.last)
	clear(m.waits)
	m.dead, m.fuse = false, -1
}

func (m *model) same(t *testing.T, d *Device) {
	t.Helper()
	var want []int
	for i, w := range m.waits {
		if w {
			want = append(want, i)
		}
	}
	waiting(t, d, want...)
	if d.Dead() != m.dead || d.Calls() != m.calls {
		t.Errorf("Dead %v, Calls %d, want %v, %d", d.Dead(), d.Calls(), m.dead, m.calls)
	}
	if !m.dead {
		expect(t, d, m.now...)
		m.calls += len(m.now)
	}
}

func TestManyCallsAgainstAModel(t *testing.T) {
	const n = 9
	for seed := range int64(200) {
		r := rand.New(rand.NewSource(seed))
		d := made(t, n)
		m := &model{last: make([]byte, n), now: make([]byte, n), waits: make([]bool, n), fuse: -1}
		for range 60 {
			switch r.Intn(12) {
			case 0:
				k := r.Intn(6) - 1
				d.Fuse(k)
				m.fuse = k
			case 1, 2:
				flip, l := r.Intn(2) == 0, r.Perm(n + 2)[:r.Intn(n)]
				d.Crash(flip, l)
				m.crash(flip, l)
			case 3, 4:
				if e, want := d.Flush(), m.flush(); e != want {
					t.Errorf("Flush %v, want %v", e, want)
				}
			case 5:
				d = d.Copy()
			default:
				i, c := r.Intn(n+2)-1, byte(r.Intn(256))
				if e, want := d.Write(i, filled(c)), m.write(i, c); e != want {
					t.Errorf("Write(%d) %v, want %v", i, e, want)
				}
			}
			m.same(t, d)
		}
		if t.Failed() {
			t.Fatal("seed", seed)
		}
	}
}

// Promise 1.4.

func TestWhatIsHandedInIsCopied(t *testing.T) {
	d := made(t, 2)
	spare := append(filled('a'), "behind"...)
	b := spare[:api.Sector]
	if e := d.Write(0, b); e != api.OK {
		t.Fatal(e)
	}
	if string(spare[api.Sector:]) != "behind" || !bytes.Equal(b, filled('a')) {
		t.Error("what was handed in was changed")
	}
	b[0] = 'x'
	expect(t, d, 'a', 0)
	flush(t, d)
	b[1] = 'x'
	expect(t, d, 'a', 0)
	for _, flip := range []bool{false, true} {
		write(t, d, 1, 'b')
		l := []int{9, 1, -4, 1, 0, 77}
		d.Crash(flip, l[:3])
		if !slices.Equal(l, []int{9, 1, -4, 1, 0, 77}) {
			t.Error("Crash changed its list", l)
		}
	}
}

func TestWhatIsToldIsNew(t *testing.T) {
	d := made(t, 3)
	write(t, d, 0, 'a')
	flush(t, d)
	write(t, d, 1, 'b')
	write(t, d, 2, 'c')
	for i := range 3 {
		b, _ := d.Read(i)
		clear(b[:cap(b)])
	}
	expect(t, d, 'a', 'b', 'c')
	w := d.Waiting()
	clear(w[:cap(w)])
	waiting(t, d, 1, 2)
	d.Crash(true, nil)
	expect(t, d, 'a', 'b', 'c')
}

func TestAnyCallsEnd(t *testing.T) {
	numbers := []int{math.MinInt, -1, 0, 1, 8191, 8192, math.MaxInt}
	for _, n := range []int{0, 1, 8192} {
		d := made(t, n)
		for _, i := range numbers {
			for _, k := range numbers {
				d.Fuse(k)
				d.Write(i, nil)
				d.Write(i, filled(1))
				d.Read(i)
				d.Flush()
				d.Write(i, filled(2))
				c := d.Copy()
				c.Crash(true, numbers)
				d.Crash(false, numbers)
			}
		}
	}
}
