package fnum

import (
	"bytes"
	"math"
	"sort"
	"strings"
	"testing"
)

// bitsInOrder are bits of numbers, each ahead of the next by the promised order, and the class of each.
var bitsInOrder = []struct {
	bits  uint64
	class int
}{
	{0xffffffffffffffff, 1}, // no number, with the sign: all its bits
	{0xfff8000000000001, 1}, // the library's NaN, with the sign
	{0xfff8000000000000, 1}, // quiet, no other bits
	{0xfff7ffffffffffff, 1}, // signalling
	{0xfff0000000000001, 1}, // signalling, the last bit
	{0xfff0000000000000, 2}, // -Inf
	{0xffefffffffffffff, 3}, // the least number
	{0xc059000000000000, 3}, // -100
	{0xbff8000000000000, 3}, // -1.5
	{0xbff0000000000000, 3}, // -1
	{0xbfe0000000000000, 3}, // -0.5
	{0x8010000000000000, 3}, // the normal one that is nearest to 0
	{0x800fffffffffffff, 3}, // the subnormal one that is farthest from 0
	{0x8000000000000001, 3}, // the nearest to 0
	{0x8000000000000000, 4}, // -0
	{0x0000000000000000, 5}, // 0
	{0x0000000000000001, 6},
	{0x000fffffffffffff, 6},
	{0x0010000000000000, 6},
	{0x3fe0000000000000, 6}, // 0.5
	{0x3ff0000000000000, 6}, // 1
	{0x3ff8000000000000, 6}, // 1.5
	{0x4059000000000000, 6}, // 100
	{0x7fefffffffffffff, 6}, // the greatest number
	{0x7ff0000000000000, 7}, // +Inf
	{0x7ff0000000000001, 1},
	{0x7ff7ffffffffffff, 1},
	{0x7ff8000000000000, 1},
	{0x7ff8000000000001, 1},
	{0x7fffffffffffffff, 1},
}

// manyBits are bits of all kinds: each exponent with either sign, and parts of all lengths behind it.
func manyBits() []uint64 {
	var l []uint64
	for exponent := range uint64(2048) {
		for _, part := range []uint64{0, 1, 2, 0x8000000000000, 0xfffffffffffff, exponent * 0x9e3779b97f4a7c15 >> 12} {
			l = append(l, exponent<<52|part, 1<<63|exponent<<52|part)
		}
	}
	return l
}

func number(bits uint64) float64 { return math.Float64frombits(bits) }

// P1.1: the edges, by their bits.
func TestClassOfEdges(t *testing.T) {
	for _, e := range bitsInOrder {
		if got := Class(number(e.bits)); got != e.class {
			t.Errorf("Class of bits %x: %d, want %d", e.bits, got, e.class)
		}
	}
}

// P1.1: the edges, as the language has them.
func TestClassOfNumbers(t *testing.T) {
	for _, e := range []struct {
		f     float64
		class int
	}{
		{math.NaN(), 1}, {math.Copysign(math.NaN(), -1), 1},
		{math.Inf(-1), 2}, {-math.MaxFloat64, 3}, {-1e-300, 3}, {-math.SmallestNonzeroFloat64, 3}, {-7, 3}, {-0.1, 3},
		{math.Copysign(0, -1), 4}, {0, 5},
		{0.1, 6}, {7, 6}, {math.SmallestNonzeroFloat64, 6}, {1e-300, 6}, {math.MaxFloat64, 6}, {math.Inf(1), 7},
	} {
		if got := Class(e.f); got != e.class {
			t.Errorf("Class(%v): %d, want %d", e.f, got, e.class)
		}
	}
}

// classByBits tells a class from the parts of the bits, without comparing floats.
func classByBits(bits uint64) int {
	below := bits>>63 == 1
	rest := bits &^ (1 << 63)
	switch {
	case rest > 0x7ff0000000000000:
		return 1
	case rest == 0x7ff0000000000000 && below:
		return 2
	case rest == 0x7ff0000000000000:
		return 7
	case rest == 0 && below:
		return 4
	case rest == 0:
		return 5
	case below:
		return 3
	}
	return 6
}

// P1.1: numbers of every exponent.
func TestClassOfMany(t *testing.T) {
	for _, b := range manyBits() {
		if got := Class(number(b)); got != classByBits(b) {
			t.Errorf("Class of bits %x: %d, want %d", b, got, classByBits(b))
		}
	}
}

// P1.2: the document's two examples, and others worked out by hand.
func TestRank(t *testing.T) {
	for _, e := range []struct{ bits, rank uint64 }{
		{0x0000000000000000, 0x8000000000000000},
		{0x8000000000000000, 0x7fffffffffffffff},
		{0x0000000000000001, 0x8000000000000001},
		{0x8000000000000001, 0x7ffffffffffffffe},
		{0x3ff0000000000000, 0xbff0000000000000},
		{0xbff0000000000000, 0x400fffffffffffff},
		{0x7fefffffffffffff, 0xffefffffffffffff},
		{0xffefffffffffffff, 0x0010000000000000},
		{0x7ff0000000000000, 0xfff0000000000000},
		{0xfff0000000000000, 0x000fffffffffffff},
		{0x7ff8000000000001, 0xfff8000000000001},
		{0xfff8000000000001, 0x0007fffffffffffe},
		{0x7fffffffffffffff, 0xffffffffffffffff},
		{0xffffffffffffffff, 0x0000000000000000},
	} {
		if got := Rank(number(e.bits)); got != e.rank {
			t.Errorf("Rank of bits %x: %x, want %x", e.bits, got, e.rank)
		}
	}
}

// P1.2, P1.4: Less is the order of the edges, no number with a sign ahead of all, without one behind all, and none is ahead of itself.
func TestLessOfEdges(t *testing.T) {
	for i, a := range bitsInOrder {
		for k, b := range bitsInOrder {
			f, g := number(a.bits), number(b.bits)
			if got := Less(f, g); got != (i < k) {
				t.Errorf("Less of bits %x and %x: %v", a.bits, b.bits, got)
			}
			if got := Less(f, g); got != (Rank(f) < Rank(g)) {
				t.Errorf("Less of bits %x and %x: %v, by the ranks %v", a.bits, b.bits, got, !got)
			}
		}
	}
}

// P1.4: wherever two numbers are one below the other, so are their ranks and their keys.
func TestOrderOfMany(t *testing.T) {
	l := manyBits()
	sort.Slice(l, func(i, k int) bool { return Rank(number(l[i])) < Rank(number(l[k])) })
	for i := 1; i < len(l); i++ {
		f, g := number(l[i-1]), number(l[i])
		if f > g || Class(f) == 5 && Class(g) == 4 {
			t.Errorf("bits %x stand ahead of %x", l[i-1], l[i])
		}
		if Class(g) == 1 && l[i]>>63 == 1 && Class(f) != 1 || Class(f) == 1 && l[i-1]>>63 == 0 && Class(g) != 1 {
			t.Errorf("no number is among the others: bits %x, %x", l[i-1], l[i])
		}
		if same := l[i-1] == l[i]; Less(f, g) == same || (Key(f) < Key(g)) == same || Less(g, f) || Key(g) < Key(f) {
			t.Errorf("bits %x and %x do not stand as their ranks do", l[i-1], l[i])
		}
	}
}

// P1.3: keys worked out by hand.
func TestKey(t *testing.T) {
	for _, e := range []struct {
		f   float64
		key string
	}{
		{0, "\x80\x00\x00\x00\x00\x00\x00\x00"},
		{math.Copysign(0, -1), "\x7f\xff\xff\xff\xff\xff\xff\xff"},
		{1, "\xbf\xf0\x00\x00\x00\x00\x00\x00"},
		{-1, "\x40\x0f\xff\xff\xff\xff\xff\xff"},
		{math.Inf(1), "\xff\xf0\x00\x00\x00\x00\x00\x00"},
		{math.Inf(-1), "\x00\x0f\xff\xff\xff\xff\xff\xff"},
		{number(0x0123456789abcdef), "\x81\x23\x45\x67\x89\xab\xcd\xef"},
		{number(0xfedcba9876543210), "\x01\x23\x45\x67\x89\xab\xcd\xef"},
		{number(0x7fffffffffffffff), "\xff\xff\xff\xff\xff\xff\xff\xff"},
		{number(0xffffffffffffffff), "\x00\x00\x00\x00\x00\x00\x00\x00"},
	} {
		if got := Key(e.f); got != e.key {
			t.Errorf("Key of bits %x: %x, want %x", math.Float64bits(e.f), got, e.key)
		}
	}
}

// P1.3, P1.4: keys are 8 bytes, and stand as their numbers do.
func TestKeysOfEdges(t *testing.T) {
	for i, a := range bitsInOrder {
		if got := Key(number(a.bits)); len(got) != 8 {
			t.Errorf("Key of bits %x: %d bytes", a.bits, len(got))
		}
		for k, b := range bitsInOrder {
			got := bytes.Compare([]byte(Key(number(a.bits))), []byte(Key(number(b.bits))))
			if (got < 0) != (i < k) || (got == 0) != (i == k) {
				t.Errorf("keys of bits %x and %x: %d", a.bits, b.bits, got)
			}
		}
	}
}

// P1.3: a number comes back by its bits, those of no number too.
func TestBackOfKeys(t *testing.T) {
	l := manyBits()
	for _, e := range bitsInOrder {
		l = append(l, e.bits)
	}
	for _, b := range l {
		f, ok := Back(Key(number(b)))
		if got := math.Float64bits(f); !ok || got != b {
			t.Errorf("Back of the key of bits %x: %x, %v", b, got, ok)
		}
	}
}

// P1.3: any 8 bytes are a key, and the one of what comes back.
func TestKeyOfBack(t *testing.T) {
	for _, s := range []string{
		"\x00\x00\x00\x00\x00\x00\x00\x00", "\xff\xff\xff\xff\xff\xff\xff\xff",
		"\x7f\xff\xff\xff\xff\xff\xff\xff", "\x80\x00\x00\x00\x00\x00\x00\x00",
		"\x00\x0f\xff\xff\xff\xff\xff\xff", "\x00\x0f\xff\xff\xff\xff\xff\xfe",
		"\xff\xf0\x00\x00\x00\x00\x00\x00", "\xff\xf0\x00\x00\x00\x00\x00\x01",
		"12345678", "\x00\x01\x02\x03\x04\x05\x06\x07", "\xfe\xdc\xba\x98\x76\x54\x32\x10",
	} {
		f, ok := Back(s)
		if !ok || Key(f) != s {
			t.Errorf("Back(%x): key %x, %v", s, Key(f), ok)
		}
	}
}

// P1.3: texts of other lengths are no keys, and tell 0, which is not -0.
func TestBackOfWrong(t *testing.T) {
	wrong := []string{"", "0", "-0", "1234567", "123456789", "ÄÖÜäöüßé"}
	for n := range 64 {
		if n != 8 {
			wrong = append(wrong, strings.Repeat("\x00", n), strings.Repeat("\x7f", n), strings.Repeat("\xff", n))
		}
	}
	wrong = append(wrong, Key(1)+"\x00", Key(1)[:7], Key(1)+Key(2), strings.Repeat("a", 1<<16))
	for _, s := range wrong {
		if f, ok := Back(s); ok || math.Float64bits(f) != 0 {
			t.Errorf("Back of %d bytes: bits %x, %v", len(s), math.Float64bits(f), ok)
		}
	}
}
