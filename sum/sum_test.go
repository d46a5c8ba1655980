package sum_test

import (
	"encoding/binary"
	"hash/crc32"
	"math"
	"math/rand"
	"slices"
	"testing"

	"lamplighter/sum"
)

// checks are ordinary ones and the edges: 0, the greatest, each bit alone, all but one.
func checks() []uint32 {
	out := []uint32{0, 1, 2, 0xFF, 0x100, 0x12345678, 0x7FFFFFFF, 0x80000000, 0xEDB88320, 1<<32 - 2, 1<<32 - 1}
	for bit := range 32 {
		out = append(out, 1<<bit, ^uint32(1<<bit))
	}
	return out
}

// words are ordinary ones and the edges: 0, -1, the least, the greatest, each bit alone, halves that are full.
func words() []int {
	out := []int{0, 1, -1, 42, -42, math.MinInt, math.MinInt + 1, math.MaxInt, math.MaxInt - 1,
		1<<32 - 1, 1 << 32, -1 << 32, 0x0102030405060708, 0x3132333435363738, -0x0102030405060708}
	for bit := range 64 {
		out = append(out, 1<<bit, ^(1 << bit))
	}
	return out
}

// slowByte is the document's sentence, by numbers alone.
func slowByte(c uint32, b byte) uint32 {
	n := uint64(c ^ uint32(b))
	for range 8 {
		odd := n%2 == 1
		n /= 2
		if odd {
			n ^= 0xEDB88320
		}
	}
	return uint32(n)
}

// slowWord takes the bytes of a word as a number of 64 bits, the highest first.
func slowWord(c uint32, w int) uint32 {
	for _, b := range binary.BigEndian.AppendUint64(nil, uint64(w)) {
		c = slowByte(c, b)
	}
	return c
}

// library is the check of all words' bytes, as Go's own library has it.
func library(l []int) int {
	var b []byte
	for _, w := range l {
		b = binary.BigEndian.AppendUint64(b, uint64(w))
	}
	return int(crc32.ChecksumIEEE(b))
}

// P3.1: Byte, written out.
func TestByteNumbers(t *testing.T) {
	for _, c := range []struct {
		c uint32
		b byte
		n uint32
	}{
		{0, 0, 0}, {0, 1, 0x77073096}, {0, 2, 0xEE0E612C}, {0, 128, 0xEDB88320}, {0, 255, 0x2D02EF8D},
		{255, 255, 0}, {256, 0, 1}, {1, 1, 0}, {0x80, 0, 0xEDB88320}, {1 << 31, 0, 1 << 23},
		{1<<32 - 1, 255, 0x00FFFFFF}, {1<<32 - 1, 0, 0x2DFD1072},
	} {
		if n := sum.Byte(c.c, c.b); n != c.n {
			t.Errorf("Byte(%x, %d): %x, not %x", c.c, c.b, n, c.n)
		}
	}
}

// P3.1: Byte at all bytes and at ordinary and utmost checks.
func TestByte(t *testing.T) {
	for _, c := range checks() {
		for b := range 256 {
			if got, want := sum.Byte(c, byte(b)), slowByte(c, byte(b)); got != want {
				t.Fatalf("Byte(%x, %d): %x, not %x", c, b, got, want)
			}
		}
	}
}

// P3.1: Word, written out: the highest byte is first, so the lowest one is moved least.
func TestWordNumbers(t *testing.T) {
	for _, c := range []struct {
		c uint32
		w int
		n uint32
	}{
		{0, 0, 0}, {0, 1, 0x77073096}, {0, 255, 0x2D02EF8D}, {0, 1 << 8, slowByte(0x77073096, 0)},
		{1<<32 - 1, 0, ^uint32(0x6522DF69)}, {1<<32 - 1, -1, ^uint32(0x2144DF1C)}, {1<<32 - 1, -1 << 32, 0},
	} {
		if n := sum.Word(c.c, c.w); n != c.n {
			t.Errorf("Word(%x, %x): %x, not %x", c.c, c.w, n, c.n)
		}
	}
	c := sum.Word(1<<32-1, 0x3132333435363738)
	if n := ^sum.Byte(c, '9'); n != 0xCBF43926 {
		t.Errorf("the nine digits: %x", n)
	}
}

// P3.1: Word at ordinary and utmost checks and words, and as eight Bytes.
func TestWord(t *testing.T) {
	for _, c := range checks() {
		for _, w := range words() {
			got := sum.Word(c, w)
			if want := slowWord(c, w); got != want {
				t.Fatalf("Word(%x, %x): %x, not %x", c, w, got, want)
			}
			one := c
			for i := range 8 {
				one = sum.Byte(one, byte(uint64(w)>>(56-8*i)))
			}
			if got != one {
				t.Fatalf("Word(%x, %x): %x, by its bytes %x", c, w, got, one)
			}
		}
	}
}

// P3.2: Of, written out.
func TestOfNumbers(t *testing.T) {
	for _, c := range []struct {
		l []int
		n int
	}{
		{nil, 0}, {[]int{}, 0},
		{[]int{0x3132333435363738}, 0x9AE0DAAF}, {[]int{0}, 0x6522DF69}, {[]int{-1}, 0x2144DF1C},
		{[]int{-1 << 32}, 1<<32 - 1}, {[]int{-1 << 32, 0}, 1<<32 - 1},
	} {
		if n := sum.Of(c.l); n != c.n {
			t.Errorf("%x: %x, not %x", c.l, n, c.n)
		}
	}
}

// P3.2: lists of all small lengths, and a long one, held against the library's check and against Word.
func TestOf(t *testing.T) {
	r := rand.New(rand.NewSource(3))
	lists := [][]int{words(), make([]int, 1000), randomWords(r, 1<<16)}
	for n := range 40 {
		lists = append(lists, make([]int, n), slices.Repeat([]int{-1}, n), randomWords(r, n))
	}
	for _, w := range words() {
		lists = append(lists, []int{w}, []int{0, w}, []int{w, 0}, []int{w, -1, w})
	}
	for _, l := range lists {
		got := sum.Of(l)
		if want := library(l); got != want {
			t.Fatalf("%d words: %x, not %x", len(l), got, want)
		}
		c := uint32(1<<32 - 1)
		for _, w := range l {
			c = sum.Word(c, w)
		}
		if want := 1<<32 - 1 - int(c); got != want {
			t.Fatalf("%d words: %x, by Word %x", len(l), got, want)
		}
		if got < 0 || got > 1<<32-1 {
			t.Fatalf("%x is no number of 32 bits", got)
		}
	}
}

func randomWords(r *rand.Rand, n int) []int {
	l := make([]int, n)
	for i := range l {
		l[i] = int(r.Uint64())
	}
	return l
}

// P3.3: one bit that differs, in any word of short lists.
func TestOneBit(t *testing.T) {
	r := rand.New(rand.NewSource(33))
	for n := 1; n <= 16; n++ {
		for _, l := range [][]int{make([]int, n), slices.Repeat([]int{-1}, n), randomWords(r, n)} {
			was := sum.Of(l)
			for i := range l {
				for bit := range 64 {
					l[i] ^= 1 << bit
					if sum.Of(l) == was {
						t.Errorf("bit %d of word %d of %x is not told", bit, i, l)
					}
					l[i] ^= 1 << bit
				}
			}
		}
	}
}

// P3.3: more bits that differ in one half of one word, the first half and the last one, of the first word, of the last one and of those between.
func TestOneHalf(t *testing.T) {
	r := rand.New(rand.NewSource(333))
	for n := 1; n <= 5; n++ {
		for _, l := range [][]int{make([]int, n), slices.Repeat([]int{-1}, n), randomWords(r, n)} {
			for i := range l {
				tellsHalves(t, r, l, i)
			}
		}
	}
}

// tellsHalves changes the halves of word i by many numbers; all that are told stand in one map, as they differ from one another in that half alone.
func tellsHalves(t *testing.T, r *rand.Rand, l []int, i int) {
	was := l[i]
	for _, shift := range []int{0, 32} {
		seen := map[int]uint32{}
		for _, d := range differences(r) {
			l[i] = was ^ int(uint64(d)<<shift)
			n := sum.Of(l)
			if other, ok := seen[n]; ok && other != d {
				t.Errorf("word %d of %d: differences %x and %x at bit %d are told alike", i, len(l), other, d, shift)
			}
			seen[n] = d
		}
		l[i] = was
	}
}

// differences are none, each one bit, two bits, runs of bits, the polynomial's own and others.
func differences(r *rand.Rand) []uint32 {
	out := []uint32{0, 0xEDB88320, 0x04C11DB7, 0x82608EDB, 0xDB710641}
	for a := range 32 {
		for b := range 32 {
			out = append(out, 1<<a|1<<b, (1<<32-1)>>a<<b)
		}
	}
	for range 500 {
		out = append(out, r.Uint32())
	}
	return out
}

// R4, R5: what is handed in stays as it was, its spare room too, and is told alike whatever its room and whatever was asked before.
func TestNothingChanged(t *testing.T) {
	room := []int{1, -2, 3, 4, 5}
	n := sum.Of(room[:2])
	if !slices.Equal(room, []int{1, -2, 3, 4, 5}) {
		t.Errorf("changed: %v", room)
	}
	sum.Byte(7, 9)
	sum.Word(8, 10)
	if again := sum.Of([]int{1, -2}); again != n || n != library([]int{1, -2}) {
		t.Errorf("%x, then %x", n, again)
	}
}
