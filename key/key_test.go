package key_test

import (
	"cmp"
	"math"
	"slices"
	"strings"
	"testing"

	"lamplighter/api"
	"lamplighter/key"
)

// edges are texts of all lengths around the pieces' ends, of ordinary and of the utmost bytes, at their ends too.
func edges() []string {
	out := []string{""}
	for n := 1; n <= 43; n++ {
		for _, c := range []string{"\x00", "\x01", "a", "\x7f", "\x80", "\xff"} {
			whole := strings.Repeat(c, n)
			out = append(out, whole)
			for _, d := range []string{"\x00", "\xff"} {
				out = append(out, d+whole[1:], whole[1:]+d, whole[:n/2]+d+whole[min(n/2+1, n):])
			}
		}
	}
	slices.Sort(out)
	return slices.Compact(out)
}

// slow is a text's words by the document's sentence, one byte after the other, by numbers alone.
func slow(s string) []int {
	var l []int
	for len(s)%7 != 0 {
		s += "\x00"
	}
	for i := 0; i < len(s); i += 7 {
		w := 0
		for _, c := range []byte(s[i : i+7]) {
			w = w*256 + int(c)
		}
		l = append(l, w)
	}
	return l
}

// P2.1: a key has 1 to 21 bytes, a value 0 to 21, whatever the bytes are.
func TestCheck(t *testing.T) {
	for n := range 70 {
		for _, c := range []string{"a", "\x00", "\xff", "\xc3"} {
			s := strings.Repeat(c, n)
			if got, want := key.Check(s), 1 <= n && n <= 21; got != want {
				t.Errorf("Check of %d bytes %q: %v", n, c, got)
			}
			if got, want := key.CheckVal(s), n <= 21; got != want {
				t.Errorf("CheckVal of %d bytes %q: %v", n, c, got)
			}
		}
	}
	long := strings.Repeat("k", 1<<20)
	if key.Check(long) || key.CheckVal(long) {
		t.Error("a long text may be")
	}
	// Bytes are counted, not runes: eleven runes of two bytes are one too many.
	if s := strings.Repeat("é", 11); key.Check(s) || key.CheckVal(s) {
		t.Error("22 bytes may be")
	}
	if s := strings.Repeat("é", 10); !key.Check(s) || !key.CheckVal(s) {
		t.Error("20 bytes may not be")
	}
}

// P2.2: words, written out.
func TestWords(t *testing.T) {
	for _, c := range []struct {
		s string
		l []int
	}{
		{"", nil},
		{"a", []int{97 << 48}},
		{"b\x00", []int{98 << 48}},
		{"\x00b", []int{98 << 40}},
		{"\x00", []int{0}},
		{"\xff", []int{255 << 48}},
		{"abcdef", []int{0x61626364656600}},
		{"abcdefg", []int{0x61626364656667}},
		{"abcdef\x00", []int{0x61626364656600}},
		{"abcdefg\x00", []int{0x61626364656667, 0}},
		{"abcdefgh", []int{0x61626364656667, 0x68 << 48}},
		{"\x00\x00\x00\x00\x00\x00\x01\xff", []int{1, 255 << 48}},
		{strings.Repeat("\xff", 14), []int{1<<56 - 1, 1<<56 - 1}},
		{strings.Repeat("\x00", 21), []int{0, 0, 0}},
		{strings.Repeat("\x00", 22), []int{0, 0, 0, 0}},
		{"abcdefghijklmnopqrstu", []int{0x61626364656667, 0x68696a6b6c6d6e, 0x6f707172737475}},
		{"abcdefghijklmnopqrstuv", []int{0x61626364656667, 0x68696a6b6c6d6e, 0x6f707172737475, 0x76 << 48}},
	} {
		if l := key.Words(c.s); !slices.Equal(l, c.l) {
			t.Errorf("%q: %x", c.s, l)
		}
		if s, e := key.Text(c.l, len(c.s)); s != c.s || e != api.OK {
			t.Errorf("%x of %d: %q, %v", c.l, len(c.s), s, e)
		}
	}
}

// P2.2: all edges there and back, held against the slow way; no other number of bytes has these words, but for bytes 0 behind.
func TestThereAndBack(t *testing.T) {
	for _, s := range edges() {
		l := key.Words(s)
		if !slices.Equal(l, slow(s)) {
			t.Fatalf("%q: %x", s, l)
		}
		for n := -2; n <= len(s)+9; n++ {
			got, e := key.Text(l, n)
			if want, ok := textOf(s, l, n); ok && (got != want || e != api.OK) {
				t.Fatalf("%q as %d bytes: %q, %v", s, n, got, e)
			} else if !ok && (got != "" || e != api.ErrKey) {
				t.Fatalf("%q as %d bytes: %q, %v", s, n, got, e)
			}
		}
	}
}

// textOf finds the text of n bytes with the words of s: s without bytes 0 behind, or with more of them.
func textOf(s string, l []int, n int) (string, bool) {
	if n < 0 {
		return "", false
	}
	want := s + strings.Repeat("\x00", max(n-len(s), 0))
	want = want[:n]
	return want, slices.Equal(slow(want), l)
}

// P2.2: words that are no text's.
func TestTextWrong(t *testing.T) {
	for _, c := range []struct {
		l []int
		n int
	}{
		{nil, 1}, {nil, -1}, {nil, 7}, {nil, math.MaxInt}, {nil, math.MinInt}, {[]int{}, math.MaxInt - 5},
		{[]int{0}, 0}, {[]int{0}, -1}, {[]int{0}, -7}, {[]int{0}, 8}, {[]int{0}, math.MaxInt}, {[]int{0}, math.MinInt},
		{[]int{0, 0}, 7}, {[]int{0, 0}, 15}, {[]int{0, 0, 0}, 14}, {[]int{0, 0, 0}, 22},
		{[]int{1}, 6}, {[]int{1}, 1}, {[]int{1 << 40}, 1}, {[]int{97<<48 + 1}, 1}, {[]int{0xff}, 6}, {[]int{0x100}, 5},
		{[]int{5, 1}, 13}, {[]int{5, 1 << 40}, 8}, {[]int{5, 6, 1}, 20},
		{[]int{-1}, 7}, {[]int{-1}, 1}, {[]int{math.MinInt}, 7}, {[]int{math.MinInt}, 1}, {[]int{math.MaxInt}, 7},
		{[]int{1 << 56}, 7}, {[]int{1 << 56}, 1}, {[]int{1<<56 + 97<<48}, 1}, {[]int{1 << 62}, 7}, {[]int{97<<48 - 1<<56}, 1},
		{[]int{1 << 56, 0}, 8}, {[]int{-1, 0}, 8}, {[]int{0, -1}, 14}, {[]int{0, 1 << 56}, 14}, {[]int{0, math.MinInt, 0}, 21},
	} {
		if s, e := key.Text(c.l, c.n); s != "" || e != api.ErrKey {
			t.Errorf("%x of %d: %q, %v", c.l, c.n, s, e)
		}
	}
	// Few bytes of many words are told to be none without a text being made of all of them.
	if s, e := key.Text(make([]int, 1<<20), 3); s != "" || e != api.ErrKey {
		t.Errorf("%q, %v", s, e)
	}
}

// P2.2: the greatest word that may be, and one of each bit, where the number of bytes lets it be.
func TestTextBits(t *testing.T) {
	for bit := range 63 {
		for n := 1; n <= 7; n++ {
			s, e := key.Text([]int{1 << bit}, n)
			ok := bit < 56 && bit >= 8*(7-n)
			if ok != (e == api.OK) || ok && !slices.Equal(key.Words(s), []int{1 << bit}) || ok != (len(s) == n) {
				t.Errorf("bit %d of %d bytes: %q, %v", bit, n, s, e)
			}
		}
	}
	if s, e := key.Text([]int{1<<56 - 1}, 7); s != "\xff\xff\xff\xff\xff\xff\xff" || e != api.OK {
		t.Errorf("%q, %v", s, e)
	}
}

// P2.3: words of texts of as many bytes stand as the texts do.
func TestOrder(t *testing.T) {
	byLen := map[int][]string{}
	for _, s := range edges() {
		byLen[len(s)] = append(byLen[len(s)], s)
	}
	for _, l := range byLen {
		for _, a := range l {
			for _, b := range l {
				if got, want := slices.Compare(key.Words(a), key.Words(b)), cmp.Compare(a, b); got != want {
					t.Fatalf("%q and %q: %d, not %d", a, b, got, want)
				}
			}
		}
	}
}

// R4: what is handed in stays as it was, its spare room too, and answers share nothing.
func TestNothingShared(t *testing.T) {
	room := []int{97 << 48, 1, 2, 3}
	if s, e := key.Text(room[:1], 1); s != "a" || e != api.OK {
		t.Errorf("%q, %v", s, e)
	}
	if !slices.Equal(room, []int{97 << 48, 1, 2, 3}) {
		t.Errorf("changed: %x", room)
	}
	s := "abcdefgh"
	a, b := key.Words(s), key.Words(s)
	a[0], a[1] = 0, 0
	if !slices.Equal(b, slow(s)) || !slices.Equal(key.Words(s), slow(s)) {
		t.Error("answers share memory")
	}
}
