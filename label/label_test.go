package label

import (
	"bytes"
	"encoding/binary"
	"math"
	"math/rand"
	"slices"
	"testing"

	"lazaret/api"
)

const top = 1<<31 - 1

func bears(s, i []int) api.Label { return api.Label{S: s, I: i} }

func caps(plus, minus []int) api.Caps { return api.Caps{Plus: plus, Minus: minus} }

func turned(c api.Caps) api.Caps { return caps(c.Minus, c.Plus) }

// upTo is the tags from first on, n of them.
func upTo(first, n int) []int {
	l := make([]int, n)
	for i := range l {
		l[i] = first + i
	}
	return l
}

func reversed(l []int) []int {
	l = slices.Clone(l)
	slices.Reverse(l)
	return l
}

// noSets are lists that are no sets, each for one reason.
func noSets() [][]int {
	return [][]int{
		{0}, {-1}, {top + 1}, {math.MinInt}, {math.MaxInt}, {1 << 32}, {1<<32 + 1},
		{0, 1}, {-1, 1}, {1, top + 1}, {top, top + 1},
		{1, 1}, {2, 1}, {1, 3, 2}, {1, 2, 2}, {top, 1}, {5, 0},
		upTo(1, 17), upTo(top-16, 17), upTo(1, 300), reversed(upTo(1, 16)),
	}
}

// sets are lists that are sets, the edges among them.
func sets() [][]int {
	return [][]int{
		nil, {}, {1}, {2}, {top}, {1, 2}, {1, top}, {top - 1, top}, {1, 3}, {2, 3}, {1, 2, 3}, {7, 9, 300},
		upTo(1, 15), upTo(1, 16), upTo(2, 16), upTo(17, 16), upTo(top-15, 16),
	}
}

func lists() [][]int { return append(sets(), noSets()...) }

// all is every list of tags that rise, out of those from 1 to n.
func all(n int) [][]int {
	var out [][]int
	for bits := range 1 << n {
		var l []int
		for i := range n {
			if bits&(1<<i) != 0 {
				l = append(l, i+1)
			}
		}
		out = append(out, l)
	}
	return out
}

func allLabels(n int) []api.Label {
	var out []api.Label
	for _, s := range all(n) {
		for _, i := range all(n) {
			out = append(out, bears(s, i))
		}
	}
	return out
}

// random is a list of up to most numbers from a few tags on, now and then one that is no tag; mostly no set.
func random(r *rand.Rand, most int) []int {
	l := make([]int, r.Intn(most+1))
	for i := range l {
		l[i] = r.Intn(12)
	}
	return l
}

// randomSet is a set of up to most tags out of span.
func randomSet(r *rand.Rand, most, span int) []int {
	var l []int
	for range r.Intn(most + 1) {
		if tag := 1 + r.Intn(span); !slices.Contains(l, tag) {
			l = append(l, tag)
		}
	}
	slices.Sort(l)
	return l
}

// What follows is what the calls ought to tell, tag by tag, and without merging.

func plainSub(a, b []int) bool {
	for _, tag := range a {
		if !slices.Contains(b, tag) {
			return false
		}
	}
	return true
}

func plainWithout(l, drop []int) []int {
	var out []int
	for _, tag := range l {
		if !slices.Contains(drop, tag) {
			out = append(out, tag)
		}
	}
	return out
}

func plainSafe(from, to []int, c api.Caps) bool {
	return plainSub(plainWithout(to, from), c.Plus) && plainSub(plainWithout(from, to), c.Minus)
}

func plainJoin(a, b []int) []int {
	out := append(slices.Clone(a), plainWithout(b, a)...)
	slices.Sort(out)
	return out
}

// Promise 3.1.

func TestSetAndMay(t *testing.T) {
	for _, l := range sets() {
		if !Set(l) || !May(bears(l, nil)) || !May(bears(nil, l)) || !May(bears(l, l)) {
			t.Errorf("%v is a set", l)
		}
	}
	for _, l := range noSets() {
		if Set(l) || May(bears(l, nil)) || May(bears(nil, l)) || May(bears(l, l)) || May(bears(l, []int{1})) || May(bears([]int{1}, l)) {
			t.Errorf("%v is no set", l)
		}
	}
}

func TestNormPutsInOrder(t *testing.T) {
	for _, c := range []struct{ l, want []int }{
		{nil, nil}, {[]int{}, nil}, {[]int{4}, []int{4}}, {[]int{2, 1}, []int{1, 2}}, {[]int{1, 1}, []int{1}},
		{[]int{3, 1, 3, 2, 1}, []int{1, 2, 3}}, {[]int{top, 1, top}, []int{1, top}},
		{reversed(upTo(1, 16)), upTo(1, 16)},
		{append(reversed(upTo(5, 16)), upTo(5, 16)...), upTo(5, 16)},
		{slices.Repeat([]int{9, 8}, 1000), []int{8, 9}},
	} {
		if got, ok := Norm(c.l); !ok || !slices.Equal(got, c.want) {
			t.Errorf("Norm(%v): %v, %v", c.l, got, ok)
		}
	}
	for _, l := range sets() {
		if got, ok := Norm(l); !ok || !slices.Equal(got, l) {
			t.Errorf("Norm(%v): %v, %v", l, got, ok)
		}
	}
}

func TestNormOfWhatIsNoSet(t *testing.T) {
	for _, l := range [][]int{{0}, {0, 0}, {-1, 1}, {1, -1}, {top + 1}, {top + 1, 5}, {math.MinInt, math.MaxInt}, upTo(1, 17), reversed(upTo(1, 17)), append(upTo(1, 16), 0), append(upTo(1, 16), 20, 20)} {
		if got, ok := Norm(l); ok || got != nil {
			t.Errorf("Norm(%v): %v, %v", l, got, ok)
		}
	}
}

func TestSub(t *testing.T) {
	for _, a := range lists() {
		for _, b := range lists() {
			if got := Sub(a, b); got != plainSub(a, b) {
				t.Errorf("Sub(%v, %v): %v", a, b, got)
			}
		}
	}
	for _, a := range all(5) {
		for _, b := range all(5) {
			if Sub(a, b) != plainSub(a, b) || Sub(reversed(a), reversed(b)) != plainSub(a, b) {
				t.Errorf("Sub(%v, %v)", a, b)
			}
		}
	}
}

func TestJoinAndMeetOfSets(t *testing.T) {
	for _, a := range append(sets(), all(5)...) {
		for _, b := range append(sets(), all(5)...) {
			want := plainJoin(a, b)
			got, ok := Join(a, b)
			if ok != (len(want) <= 16) || ok && !slices.Equal(got, want) || !ok && got != nil {
				t.Errorf("Join(%v, %v): %v, %v", a, b, got, ok)
			}
			want = plainWithout(a, plainWithout(a, b))
			if got := Meet(a, b); !slices.Equal(got, want) {
				t.Errorf("Meet(%v, %v): %v", a, b, got)
			}
		}
	}
}

func TestJoinBounds(t *testing.T) {
	if got, ok := Join(upTo(1, 8), upTo(9, 8)); !ok || !slices.Equal(got, upTo(1, 16)) {
		t.Error(got, ok)
	}
	if got, ok := Join(upTo(1, 16), upTo(1, 16)); !ok || !slices.Equal(got, upTo(1, 16)) {
		t.Error(got, ok)
	}
	if got, ok := Join(upTo(1, 16), []int{top}); ok || got != nil {
		t.Error(got, ok)
	}
	if got, ok := Join(upTo(1, 9), upTo(9, 9)); ok || got != nil {
		t.Error(got, ok)
	}
}

func TestJoinAndMeetOfNoSets(t *testing.T) {
	for _, a := range noSets() {
		for _, b := range lists() {
			for _, pair := range [][2][]int{{a, b}, {b, a}, {a, a}} {
				if got, ok := Join(pair[0], pair[1]); ok || got != nil {
					t.Errorf("Join(%v, %v): %v, %v", pair[0], pair[1], got, ok)
				}
				if got := Meet(pair[0], pair[1]); len(got) != 0 {
					t.Errorf("Meet(%v, %v): %v", pair[0], pair[1], got)
				}
			}
		}
	}
}

func TestFlowsAndSameOfAllLabels(t *testing.T) {
	labels := allLabels(3)
	for _, a := range labels {
		for _, b := range labels {
			if got := Flows(a, b); got != (plainSub(a.S, b.S) && plainSub(b.I, a.I)) {
				t.Errorf("Flows(%v, %v): %v", a, b, got)
			}
			if got := Same(a, b); got != (slices.Equal(a.S, b.S) && slices.Equal(a.I, b.I)) {
				t.Errorf("Same(%v, %v): %v", a, b, got)
			}
		}
	}
	if !Same(bears(nil, nil), bears([]int{}, []int{})) || !Flows(bears(nil, nil), bears([]int{}, []int{})) {
		t.Error("nil and an empty list differ")
	}
}

func TestFlowsExample(t *testing.T) {
	one, two := bears([]int{1}, nil), bears([]int{1, 2}, nil)
	if !Flows(one, two) || Flows(two, one) {
		t.Error("what is secret flows to those alone who bear its tags")
	}
	if !Flows(bears(nil, []int{3}), bears(nil, nil)) || Flows(bears(nil, nil), bears(nil, []int{3})) {
		t.Error("what vouches is not won by flowing")
	}
	if Same(bears([]int{1}, nil), bears(nil, []int{1})) {
		t.Error("S and I are told apart")
	}
}

// Promise 3.2.

func TestSafeExample(t *testing.T) {
	if Safe([]int{1}, []int{2}, caps([]int{2}, nil)) || Safe([]int{1}, []int{2}, caps(nil, []int{1})) || !Safe([]int{1}, []int{2}, caps([]int{2}, []int{1})) {
		t.Error("1 goes and 2 comes")
	}
	if Safe([]int{1}, []int{2}, caps([]int{1}, []int{2})) {
		t.Error("the other way")
	}
	if !Safe([]int{1, 2}, []int{1, 2}, api.Caps{}) || !Safe(nil, nil, api.Caps{}) {
		t.Error("what stays needs nothing")
	}
}

func TestSafeOfAllSets(t *testing.T) {
	subsets := all(3)
	for _, from := range subsets {
		for _, to := range subsets {
			for _, p := range subsets {
				for _, m := range subsets {
					c := caps(p, m)
					if got := Safe(from, to, c); got != plainSafe(from, to, c) {
						t.Errorf("Safe(%v, %v, %v): %v", from, to, c, got)
					}
				}
			}
		}
	}
}

func TestChangeOfAllLabels(t *testing.T) {
	labels, subsets := allLabels(2), all(2)
	for _, from := range labels {
		for _, to := range labels {
			for _, p := range subsets {
				for _, m := range subsets {
					c := caps(p, m)
					if got := Change(from, to, c); got != (plainSafe(from.S, to.S, c) && plainSafe(from.I, to.I, c)) {
						t.Errorf("Change(%v, %v, %v): %v", from, to, c, got)
					}
				}
			}
		}
	}
}

func TestChangeToNoLabel(t *testing.T) {
	for _, l := range noSets() {
		c := caps(l, l)
		if Change(api.Label{}, bears(l, nil), c) || Change(api.Label{}, bears(nil, l), c) || Change(bears(l, l), bears(l, l), c) {
			t.Errorf("%v is no set", l)
		}
		if !Change(bears(l, nil), api.Label{}, c) || !Change(bears(nil, l), bears([]int{3}, nil), caps([]int{3}, l)) {
			t.Errorf("that %v is no set is asked of where it goes alone", l)
		}
	}
	if !Change(api.Label{}, bears(upTo(1, 16), upTo(1, 16)), caps(upTo(1, 16), nil)) {
		t.Error("16 tags")
	}
}

func TestCapsOfAllSets(t *testing.T) {
	labels := allLabels(3)
	for _, l := range labels {
		a := caps(l.S, l.I)
		for _, m := range labels {
			b := caps(m.S, m.I)
			if got := Within(a, b); got != (plainSub(a.Plus, b.Plus) && plainSub(a.Minus, b.Minus)) {
				t.Errorf("Within(%v, %v): %v", a, b, got)
			}
			left := Less(a, b)
			if !slices.Equal(left.Plus, plainWithout(a.Plus, b.Plus)) || !slices.Equal(left.Minus, plainWithout(a.Minus, b.Minus)) {
				t.Errorf("Less(%v, %v): %v", a, b, left)
			}
			sum, ok := More(a, b)
			if !ok || !slices.Equal(sum.Plus, plainJoin(a.Plus, b.Plus)) || !slices.Equal(sum.Minus, plainJoin(a.Minus, b.Minus)) {
				t.Errorf("More(%v, %v): %v, %v", a, b, sum, ok)
			}
		}
	}
}

func TestMoreOfNoSets(t *testing.T) {
	refused := func(a, b api.Caps) {
		t.Helper()
		for _, pair := range [][2]api.Caps{{a, b}, {b, a}, {turned(a), turned(b)}, {turned(b), turned(a)}} {
			if got, ok := More(pair[0], pair[1]); ok || got.Plus != nil || got.Minus != nil {
				t.Errorf("More(%v, %v): %v, %v", pair[0], pair[1], got, ok)
			}
		}
	}
	for _, l := range noSets() {
		refused(caps(l, nil), api.Caps{})
		refused(caps(l, []int{1}), caps([]int{1}, []int{2}))
		refused(caps(l, l), caps(l, l))
		refused(caps(l, []int{1}), caps([]int{1}, l))
	}
	refused(caps(upTo(1, 16), []int{1}), caps([]int{17}, []int{2}))
	refused(caps(upTo(1, 9), nil), caps(upTo(9, 9), nil))
	if got, ok := More(caps(upTo(1, 16), upTo(1, 8)), caps(upTo(2, 3), upTo(9, 8))); !ok || !slices.Equal(got.Plus, upTo(1, 16)) || !slices.Equal(got.Minus, upTo(1, 16)) {
		t.Error(got, ok)
	}
}

// What is asked of lists alone is answered of those that are no sets, too.
func TestListsThatAreNoSets(t *testing.T) {
	r := rand.New(rand.NewSource(32))
	for range 20000 {
		a, b := bears(random(r, 6), random(r, 6)), bears(random(r, 6), random(r, 6))
		c, d := caps(random(r, 20), random(r, 20)), caps(random(r, 20), random(r, 20))
		if got := Flows(a, b); got != (plainSub(a.S, b.S) && plainSub(b.I, a.I)) {
			t.Fatalf("Flows(%v, %v): %v", a, b, got)
		}
		if got := Safe(a.S, b.S, c); got != plainSafe(a.S, b.S, c) {
			t.Fatalf("Safe(%v, %v, %v): %v", a.S, b.S, c, got)
		}
		if got := Within(c, d); got != (plainSub(c.Plus, d.Plus) && plainSub(c.Minus, d.Minus)) {
			t.Fatalf("Within(%v, %v): %v", c, d, got)
		}
		left := Less(c, d)
		if !slices.Equal(left.Plus, plainWithout(c.Plus, d.Plus)) || !slices.Equal(left.Minus, plainWithout(c.Minus, d.Minus)) {
			t.Fatalf("Less(%v, %v): %v", c, d, left)
		}
		if got := Low(a, b.S); got != (len(plainWithout(b.S, a.S)) == len(b.S)) {
			t.Fatalf("Low(%v, %v): %v", a, b.S, got)
		}
	}
	if !Same(bears([]int{2, 1, 2}, []int{3}), bears([]int{1, 2}, []int{3, 3})) || Same(bears([]int{2, 2}, nil), bears([]int{1, 2}, nil)) {
		t.Error("the same tags")
	}
}

// Promise 3.3.

func TestEncode(t *testing.T) {
	for _, c := range []struct {
		l    api.Label
		want string
	}{
		{bears(nil, nil), "\x00\x00"},
		{bears([]int{1}, nil), "\x01\x00\x00\x00\x01\x00"},
		{bears(nil, []int{1}), "\x00\x01\x00\x00\x00\x01"},
		{bears([]int{0x01020304, 0x7f00ff80}, []int{258, top}), "\x02\x01\x02\x03\x04\x7f\x00\xff\x80\x02\x00\x00\x01\x02\x7f\xff\xff\xff"},
	} {
		if got, e := Encode(c.l); string(got) != c.want || e != api.OK {
			t.Errorf("Encode(%v): %x, %v", c.l, got, e)
		}
	}
	for _, l := range noSets() {
		for _, x := range []api.Label{bears(l, nil), bears(nil, l), bears(l, l), bears([]int{1}, l)} {
			if got, e := Encode(x); got != nil || e != api.ErrArg {
				t.Errorf("Encode(%v): %x, %v", x, got, e)
			}
		}
	}
}

func thereAndBack(t *testing.T, l api.Label) {
	t.Helper()
	b, e := Encode(l)
	if e != api.OK || len(b) != 2+4*(len(l.S)+len(l.I)) {
		t.Fatalf("Encode(%v): %x, %v", l, b, e)
	}
	for _, behind := range []string{"", "\x00", "\xff\xff", string(b)} {
		got, used, e := Decode(append(slices.Clone(b), behind...))
		if e != api.OK || used != len(b) || !slices.Equal(got.S, l.S) || !slices.Equal(got.I, l.I) {
			t.Errorf("Decode of %x and %q: %v, %d, %v", b, behind, got, used, e)
		}
	}
	for i := range b {
		decodeFails(t, b[:i], api.ErrTorn)
	}
}

func decodeFails(t *testing.T, b []byte, want api.Errno) {
	t.Helper()
	if got, used, e := Decode(b); e != want || got.S != nil || got.I != nil || used != 0 {
		t.Errorf("Decode(%x): %v, %d, %v, want %v", b, got, used, e, want)
	}
}

func TestDecodeTurnsEncodeBack(t *testing.T) {
	for _, s := range sets() {
		for _, i := range sets() {
			thereAndBack(t, bears(s, i))
		}
	}
	r := rand.New(rand.NewSource(33))
	for range 500 {
		thereAndBack(t, bears(randomSet(r, 16, top), randomSet(r, 16, 40)))
	}
}

// coded is a set's bytes as they would be, if l were one.
func coded(count int, l ...uint32) []byte {
	b := []byte{byte(count)}
	for _, tag := range l {
		b = binary.BigEndian.AppendUint32(b, tag)
	}
	return b
}

func TestDecodeWhatIsNoLabel(t *testing.T) {
	decodeFails(t, nil, api.ErrTorn)
	decodeFails(t, []byte{}, api.ErrTorn)
	for count := 17; count < 256; count++ {
		decodeFails(t, []byte{byte(count)}, api.ErrForm)
		decodeFails(t, []byte{0, byte(count)}, api.ErrForm)
	}
	decodeFails(t, []byte{0}, api.ErrTorn)
	for count := 1; count <= 16; count++ {
		decodeFails(t, []byte{byte(count)}, api.ErrTorn)
		decodeFails(t, []byte{0, byte(count)}, api.ErrTorn)
	}
	for _, set := range [][]byte{
		coded(1, 0), coded(1, 1<<31), coded(1, 1<<32-1), coded(2, 1, 1), coded(2, 2, 1), coded(2, 5, 0), coded(2, top, 1<<31), coded(3, 1, 3, 2),
	} {
		decodeFails(t, set, api.ErrForm)
		decodeFails(t, append(set, 0), api.ErrForm)
		decodeFails(t, append([]byte{0}, set...), api.ErrForm)
		decodeFails(t, append(coded(2, 1, 9), set...), api.ErrForm)
		for i := range set {
			decodeFails(t, set[:i], api.ErrTorn)
		}
	}
}

// A wrong tag is told as soon as it is read, ahead of an end that comes behind it; an end within it is told first.
func TestDecodeTellsWhatComesFirst(t *testing.T) {
	decodeFails(t, coded(16, 0), api.ErrForm)
	decodeFails(t, coded(16, 1<<31), api.ErrForm)
	decodeFails(t, coded(16, 4, 4), api.ErrForm)
	decodeFails(t, coded(16, 4, 3), api.ErrForm)
	decodeFails(t, coded(16, 3, 4), api.ErrTorn)
	decodeFails(t, append(coded(16, 3, 4), 0, 0, 0), api.ErrTorn)
	decodeFails(t, append(coded(16, 3, 4), 0x80, 0, 0), api.ErrTorn)
	decodeFails(t, append(coded(1, 3), 17), api.ErrForm)
	decodeFails(t, append(coded(1, 3), coded(9, 0)...), api.ErrForm)
	decodeFails(t, append(coded(1, 0), 17), api.ErrForm)
	// I begins anew: its first tag need not be above the last one of S.
	if got, used, e := Decode(append(coded(1, 9), coded(1, 2)...)); e != api.OK || used != 10 || !slices.Equal(got.S, []int{9}) || !slices.Equal(got.I, []int{2}) {
		t.Error(got, used, e)
	}
}

func TestDecodeAnyBytes(t *testing.T) {
	r := rand.New(rand.NewSource(34))
	for range 50000 {
		b := make([]byte, r.Intn(60))
		for i := range b {
			b[i] = byte(r.Intn(3) * r.Intn(3))
		}
		got, used, e := Decode(b)
		switch e {
		case api.OK:
			if back, e := Encode(got); e != api.OK || !bytes.Equal(back, b[:used]) {
				t.Fatalf("Decode(%x): %v, %d, which is %x", b, got, used, back)
			}
		case api.ErrTorn, api.ErrForm:
			decodeFails(t, b, e)
		default:
			t.Fatalf("Decode(%x): %v", b, e)
		}
	}
}

func TestLow(t *testing.T) {
	for _, c := range []struct {
		s, t []int
		want bool
	}{
		{nil, nil, true}, {[]int{1}, nil, true}, {nil, []int{1}, true}, {[]int{1}, []int{1}, false}, {[]int{1}, []int{2, 3}, true},
		{[]int{1, 2}, []int{2, 3}, false}, {[]int{1, 5}, []int{2, 3}, true}, {[]int{2}, []int{3, 2, 2}, false}, {upTo(1, 16), []int{16}, false}, {upTo(1, 16), []int{17}, true},
		{upTo(1, 16), append(upTo(20, 30), 1), false},
	} {
		if got := Low(bears(c.s, nil), c.t); got != c.want {
			t.Errorf("Low of %v, %v: %v", c.s, c.t, got)
		}
		if !Low(bears(nil, c.s), c.t) {
			t.Errorf("%v vouches and is no secret", c.s)
		}
	}
}

// Promise 3.4.

func TestFlowsIsAnOrder(t *testing.T) {
	labels := allLabels(3)
	for _, a := range labels {
		if !Flows(a, a) {
			t.Errorf("%v does not flow to itself", a)
		}
		for _, b := range labels {
			if !Flows(a, b) {
				continue
			}
			if Flows(b, a) && !Same(a, b) {
				t.Errorf("%v and %v flow to each other", a, b)
			}
			for _, c := range labels {
				if Flows(b, c) && !Flows(a, c) {
					t.Errorf("%v, %v, %v: what flows on does not flow", a, b, c)
				}
			}
		}
	}
}

func TestChangeComesBack(t *testing.T) {
	r := rand.New(rand.NewSource(35))
	went := 0
	for range 50000 {
		from, to := bears(randomSet(r, 4, 5), randomSet(r, 4, 5)), bears(randomSet(r, 4, 5), randomSet(r, 4, 5))
		c := caps(randomSet(r, 16, 5), randomSet(r, 16, 5))
		there, back := Change(from, to, c), Change(to, from, turned(c))
		if there != back {
			t.Errorf("Change(%v, %v, %v): %v, and back %v", from, to, c, there, back)
		}
		if there {
			went++
		}
	}
	if went == 0 {
		t.Error("no change was allowed")
	}
}

// Promise 3.5.

// handed is a copy of l with spare room behind it, and what looks whether both stayed as they were.
func handed(l []int) ([]int, func() bool) {
	spare := append(slices.Clone(l), upTo(100, 20)...)
	want := slices.Clone(spare)
	return spare[:len(l)], func() bool { return slices.Equal(spare, want) }
}

func TestWhatIsHandedInStays(t *testing.T) {
	for _, x := range lists() {
		for _, y := range lists() {
			a, aStays := handed(x)
			b, bStays := handed(y)
			callAll(a, b)
			if !aStays() || !bStays() {
				t.Fatalf("%v or %v was changed", x, y)
			}
		}
	}
	b := append(coded(2, 3, 4), coded(1, 5)...)
	want := bytes.Clone(b)
	got, _, _ := Decode(b)
	if !bytes.Equal(b, want) {
		t.Error("what was decoded was changed")
	}
	clear(b)
	if !Same(got, bears([]int{3, 4}, []int{5})) {
		t.Error("what was decoded is kept")
	}
}

func callAll(a, b []int) {
	l, m, c, d := bears(a, b), bears(b, a), caps(a, b), caps(b, a)
	Set(a)
	May(l)
	Norm(a)
	Sub(a, b)
	Join(a, b)
	Meet(a, b)
	Same(l, m)
	Flows(l, m)
	Safe(a, b, c)
	Change(l, m, c)
	Within(c, d)
	Less(c, d)
	More(c, d)
	Encode(l)
	Low(l, b)
}

// fill writes over all of l, its spare room too.
func fill(l []int) {
	l = l[:cap(l)]
	for i := range l {
		l[i] = -7
	}
}

func TestWhatIsToldIsNew(t *testing.T) {
	for _, x := range sets() {
		a, stays := handed(x)
		normed, _ := Norm(a)
		joined, _ := Join(a, nil)
		other, _ := Join(nil, a)
		left := Less(caps(a, a), api.Caps{})
		sum, _ := More(caps(a, a), api.Caps{})
		twice, _ := More(caps(a, nil), caps(a, a))
		code, _ := Encode(bears(a, a))
		back, _, _ := Decode(code)
		told := [][]int{normed, joined, other, Meet(a, a), left.Plus, left.Minus, sum.Plus, sum.Minus, twice.Plus, twice.Minus, back.S, back.I}
		for i, l := range told {
			if !slices.Equal(l, x) {
				t.Errorf("%d: %v, want %v: it shares with what was told ahead of it", i, l, x)
			}
			fill(l)
			if !stays() {
				t.Fatalf("%d: what is told shares with what was handed in", i)
			}
		}
		clear(code[:cap(code)])
		again, _ := Encode(bears(a, a))
		if len(again) != 2+8*len(x) || int(again[0]) != len(x) {
			t.Errorf("%x", again)
		}
	}
}

func TestAnyCallsEnd(t *testing.T) {
	r := rand.New(rand.NewSource(36))
	many := make([]int, 50000)
	for i := range many {
		many[i] = r.Int() - r.Int()
	}
	for _, l := range [][]int{many, reversed(upTo(1, 50000)), make([]int, 50000), {math.MinInt, math.MaxInt, 0}} {
		callAll(l, many)
		callAll(many, l)
		callAll(l, nil)
	}
	for _, n := range []int{1, 16, 17, 4096} {
		for _, c := range []byte{0, 1, 16, 17, 127, 128, 255} {
			Decode(bytes.Repeat([]byte{c}, n))
		}
	}
}
