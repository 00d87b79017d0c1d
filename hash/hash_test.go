package hash

import (
	"bytes"
	"crypto/sha256"
	"encoding/binary"
	"encoding/hex"
	"math"
	"math/rand"
	"strings"
	"testing"
)

// counting is n bytes that are not alike, so that a byte in the wrong place shows.
func counting(n int) []byte {
	b := make([]byte, n)
	for i := range b {
		b[i] = byte(i*7 + i/256 + 1)
	}
	return b
}

func sameSum(t *testing.T, b []byte) {
	t.Helper()
	want := sha256.Sum256(b)
	if got := SHA256(b); !bytes.Equal(got, want[:]) {
		t.Errorf("SHA256 of %d bytes: %x, want %x", len(b), got, want)
	}
}

// Promise 2.1.

func TestSumsOfTheStandard(t *testing.T) {
	for _, c := range []struct{ text, want string }{
		{"", "e3b0c44298fc1c149afbf4c8996fb92427ae41e4649b934ca495991b7852b855"},
		{"abc", "ba7816bf" + "8f01cfea" + "414140de" + "5dae2223" + "b00361a3" + "96177a9c" + "b410ff61" + "f20015ad"},
		{"abcdbcdecdefdefgefghfghighijhijkijkljklmklmnlmnomnopnopq", "248d6a61d20638b8e5c026930c3e6039a33ce45964ff2167f6ecedd419db06c1"},
		{"abcdefghbcdefghicdefghijdefghijkefghijklfghijklmghijklmnhijklmnoijklmnopjklmnopqklmnopqrlmnopqrsmnopqrstnopqrstu", "cf5b16a778af8380036ce59e7b0492370b249b11e8f07a51afac45037afee9d1"},
		{strings.Repeat("a", 1000000), "cdc76e5c9914fb9281a1c7e284d73e67f1809a48a497200e046d39ccc7112cd0"},
	} {
		if got := Hex(SHA256([]byte(c.text))); got != c.want {
			t.Errorf("%d bytes: %s, want %s", len(c.text), got, c.want)
		}
	}
	if got := SHA256(nil); !bytes.Equal(got, SHA256([]byte{})) {
		t.Error("nil and an empty list differ", got)
	}
}

// Every length up to some blocks: among them each at which the padding takes one block more.
func TestSumsOfEachLength(t *testing.T) {
	for n := range 5*64 + 2 {
		sameSum(t, counting(n))
		sameSum(t, make([]byte, n))
		sameSum(t, bytes.Repeat([]byte{255}, n))
	}
}

func TestSumsOfManyTexts(t *testing.T) {
	r := rand.New(rand.NewSource(2))
	for range 2000 {
		b := make([]byte, r.Intn(1000))
		r.Read(b)
		sameSum(t, b)
	}
	sameSum(t, counting(3<<20))
	sameSum(t, counting(3<<20+55))
}

func TestSumOfEachBit(t *testing.T) {
	for i := range 8 * 64 {
		b := make([]byte, 64)
		b[i/8] = 1 << (i % 8)
		sameSum(t, b)
		sameSum(t, b[:i/8+1])
	}
}

// A text whose length in bits needs more than 32 of them would take long to sum: what is padded shows as much.
func TestEndingTellsLongLengths(t *testing.T) {
	for _, rest := range []int{0, 1, 54, 55, 56, 57, 62, 63} {
		for _, length := range []uint64{0, 1, 1 << 28, 1<<29 - 1, 1 << 29, 1<<29 + 1, 1<<31 - 1, 1 << 40} {
			got := ending(counting(rest), length)
			want := append(counting(rest), 0x80)
			for len(want)%64 != 56 {
				want = append(want, 0)
			}
			want = binary.BigEndian.AppendUint64(want, 8*length)
			if !bytes.Equal(got, want) {
				t.Errorf("%d of %d: %x, want %x", rest, length, got, want)
			}
		}
	}
}

func TestHexTellsEachByte(t *testing.T) {
	if got := Hex(nil) + Hex([]byte{}); got != "" {
		t.Error(got)
	}
	for i := range 256 {
		b := []byte{byte(i), 0, byte(255 - i)}
		if got := Hex(b); got != hex.EncodeToString(b) {
			t.Error(i, got)
		}
	}
	if got := Hex([]byte("\x00\x09\x0a\x0f\x10\x9f\xa0\xff")); got != "00090a0f109fa0ff" {
		t.Error(got)
	}
}

func TestUnhexTellsEachByte(t *testing.T) {
	for _, c := range []struct{ text, want string }{
		{"", ""},
		{"00", "\x00"},
		{"0f", "\x0f"},
		{"f0", "\xf0"},
		{"09af", "\x09\xaf"},
		{"00ff1a", "\x00\xff\x1a"},
	} {
		if got, ok := Unhex(c.text); string(got) != c.want || !ok {
			t.Errorf("Unhex(%q): %q, %v", c.text, got, ok)
		}
	}
}

func TestUnhexOfWhatIsNoHex(t *testing.T) {
	for _, s := range []string{"0", "f", "000", "0g", "g0", "FF", "aF", "Fa", "0A", " 0", "0 ", " 00", "00 ", "0x", "0x00", "+1", "-1", "00\n", "\n", "\x00\x00", "ab:cd", "0é", "é", "０１", "\xff\xff", "00000g", "g00000", "00g000"} {
		if got, ok := Unhex(s); got != nil || ok {
			t.Errorf("Unhex(%q): %q, %v", s, got, ok)
		}
	}
	for c := range 256 {
		is := strings.IndexByte("0123456789abcdef", byte(c)) >= 0
		for _, s := range []string{string([]byte{byte(c), '7'}), string([]byte{'7', byte(c)}), string([]byte{'7', '7', '7', byte(c)})} {
			got, ok := Unhex(s)
			if ok != is || ok && Hex(got) != s || !ok && got != nil {
				t.Errorf("Unhex(%q): %q, %v", s, got, ok)
			}
		}
	}
}

// stretched is what Stretch ought to tell, word by word.
func stretched(salt, pass string, times int) string {
	h := sha256.Sum256([]byte(salt + "\x00" + pass))
	for range times {
		h = sha256.Sum256([]byte(string(h[:]) + salt + pass))
	}
	return hex.EncodeToString(h[:])
}

func TestStretch(t *testing.T) {
	long := strings.Repeat("long ", 100)
	for _, salt := range []string{"", "s", "salt", "a\x00b", long} {
		for _, pass := range []string{"", "x", "pass", "\x00", "\xff\xfe", long} {
			for _, times := range []int{0, 1, 2, 3, 10, 100} {
				if got := Stretch(salt, pass, times); got != stretched(salt, pass, times) {
					t.Errorf("Stretch(%q, %q, %d): %s", salt, pass, times, got)
				}
			}
		}
	}
}

func TestStretchBounds(t *testing.T) {
	for _, times := range []int{-1, -1000, math.MinInt32, math.MinInt} {
		if got := Stretch("salt", "pass", times); got != stretched("salt", "pass", 0) {
			t.Error(times, got)
		}
	}
	for _, times := range []int{999, 1000} {
		if got := Stretch("salt", "pass", times); got != stretched("salt", "pass", times) {
			t.Error(times, got)
		}
	}
	for _, times := range []int{1001, 2000, 1 << 32, math.MaxInt32, math.MaxInt} {
		if got := Stretch("salt", "pass", times); got != stretched("salt", "pass", 1000) {
			t.Error(times, got)
		}
	}
}

// The byte 0 parts salt and pass only in the first sum.
func TestStretchPartsSaltAndPass(t *testing.T) {
	if Stretch("ab", "c", 0) == Stretch("a", "bc", 0) {
		t.Error("0 times")
	}
	if Stretch("ab", "c", 1) == Stretch("a", "bc", 1) {
		t.Error("1 time")
	}
	if Stretch("a", "b\x00c", 0) != Stretch("a\x00b", "c", 0) {
		t.Error("more than a byte 0 stands between")
	}
}

// Promise 2.2.

func TestUnhexTurnsHexBack(t *testing.T) {
	r := rand.New(rand.NewSource(22))
	for n := range 300 {
		b := make([]byte, n)
		r.Read(b)
		s := Hex(b)
		if len(s) != 2*n {
			t.Errorf("Hex of %d bytes has %d digits", n, len(s))
		}
		if got, ok := Unhex(s); !ok || !bytes.Equal(got, b) {
			t.Errorf("%x, %v, want %x", got, ok, b)
		}
	}
	all := counting(256 * 256)
	if got, ok := Unhex(Hex(all)); !ok || !bytes.Equal(got, all) {
		t.Error("many bytes")
	}
}

// Promise 2.3.

func TestWhatIsHandedInStays(t *testing.T) {
	for _, n := range []int{0, 1, 55, 56, 63, 64, 65, 130} {
		spare := append(counting(n), bytes.Repeat([]byte{'!'}, 200)...)
		want := bytes.Clone(spare)
		b := spare[:n]
		sum, text := SHA256(b), Hex(b)
		if !bytes.Equal(spare, want) {
			t.Errorf("%d bytes: what was handed in was changed", n)
		}
		clear(spare)
		if !bytes.Equal(sum, SHA256(want[:n])) || text != Hex(want[:n]) {
			t.Errorf("%d bytes: what was handed in is kept", n)
		}
	}
}

func TestWhatIsToldIsNew(t *testing.T) {
	b := counting(64)
	text := Hex(b)
	for range 3 {
		sum := SHA256(b)
		if len(sum) != 32 {
			t.Error(len(sum))
		}
		sameSum(t, b)
		clear(sum[:cap(sum)])
		sum = SHA256(nil)
		clear(sum[:cap(sum)])
		sameSum(t, nil)
		back, ok := Unhex(text)
		if !ok || !bytes.Equal(back, counting(64)) {
			t.Error(back, ok)
		}
		clear(back[:cap(back)])
		if Hex(b) != text || !bytes.Equal(b, counting(64)) {
			t.Error("what was told is shared")
		}
	}
}

func TestAnyCallsEnd(t *testing.T) {
	texts := []string{"", "\x00", "\xff", "\u00e9", "0", strings.Repeat("\xff", 4097), strings.Repeat("0", 4097)}
	for _, s := range texts {
		SHA256([]byte(s))
		Hex([]byte(s))
		Unhex(s)
		for _, p := range texts {
			for _, times := range []int{math.MinInt, -1, 0, 1, 7} {
				Stretch(s, p, times)
			}
		}
	}
	Stretch(texts[5], texts[5], math.MaxInt)
}
