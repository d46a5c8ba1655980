package rec_test

import (
	"encoding/binary"
	"hash/crc32"
	"math"
	"slices"
	"strings"
	"testing"

	"lamplighter/api"
	"lamplighter/micro"
	"lamplighter/pmem"
	"lamplighter/rec"
)

// utmost are numbers far off all that may be.
var utmost = []int{math.MinInt, math.MinInt + 1, math.MinInt + 16, -1 << 32, 1 << 32, 1<<32 + 1, 1 << 59, 1<<59 + 1, 1 << 60, 1<<60 + 1, 1 << 62, math.MaxInt - 15, math.MaxInt}

// texts are of no byte, one, some around seven and fourteen, as many as may be, and more, of ordinary bytes, of 0 and of 255, at their ends too.
func texts() []string {
	out := []string{""}
	for _, n := range []int{1, 2, 6, 7, 8, 13, 14, 15, 20, 21, 22, 23, 32, 64} {
		for _, c := range []string{"a", "\x00", "\xff"} {
			whole := strings.Repeat(c, n)
			out = append(out, whole, "\x00"+whole[1:], "\xff"+whole[1:], whole[1:]+"\x00", whole[1:]+"\xff", whole[:n/2]+"\x00"+whole[n/2+1:])
		}
	}
	slices.Sort(out)
	return slices.Compact(out)
}

var kinds = append([]int{-2, -1, 0, 1, 2, 3, 4, 16}, utmost...)

var children = append([]int{-256, -2, -1, 0, 1, 2, 128, 254, 255, 256, 257}, utmost...)

// mayBe is the document's sentence on records.
func mayBe(x api.Rec) bool {
	pair := x.Kind == 1 && len(x.Key) >= 1 && len(x.Key) <= 21 && len(x.Val) <= 21 && x.Child == 0
	node := x.Kind == 2 && len(x.Key) <= 21 && len(x.Val) == 0 && x.Child >= 1 && x.Child <= 255
	return pair || node
}

// all are records of all kinds, with all texts and children, whether they may be or not.
func all(each func(x api.Rec)) {
	for _, kind := range kinds {
		for _, key := range texts() {
			for _, val := range texts() {
				for _, child := range children {
					each(api.Rec{Kind: kind, Key: key, Val: val, Child: child})
				}
			}
		}
	}
}

// some are records that may be, of both kinds, with few and with many bytes.
func some() []api.Rec {
	short, long, zero, full := "k", "abcdefghijklmnopqrstu", strings.Repeat("\x00", 21), strings.Repeat("\xff", 21)
	var out []api.Rec
	for _, s := range []string{short, "\x00", "\xff", "a\x00", "abcdefg", "abcdefgh", "\xff\xff\xff\xff\xff\xff\xff\x00", long[:14], long[:15], long[:20], long, zero, full} {
		for _, v := range []string{"", short, "\x00", "ABCDEFG", "ABCDEFGH", zero, full} {
			out = append(out, api.Rec{Kind: 1, Key: s, Val: v})
		}
		for _, child := range []int{1, 128, 255} {
			out = append(out, api.Rec{Kind: 2, Key: s, Child: child})
		}
	}
	return append(out, api.Rec{Kind: 2, Child: 1}, api.Rec{Kind: 2, Child: 255})
}

// check is that of all words but the third one, as Go's own library has it.
func check(w [16]int) int {
	var b []byte
	for i, x := range w {
		if i != 2 {
			b = binary.BigEndian.AppendUint64(b, uint64(x))
		}
	}
	return int(crc32.ChecksumIEEE(b))
}

// sealed are words with the check that they are to have.
func sealed(w [16]int) [16]int {
	w[2] = check(w)
	return w
}

// three are the words of a text of at most 21 bytes, by numbers alone.
func three(s string) [3]int {
	var out [3]int
	for i, c := range []byte(s + strings.Repeat("\x00", 21-len(s))) {
		out[i/7] = out[i/7]*256 + int(c)
	}
	return out
}

// sentence are a record's words, as the document says it.
func sentence(x api.Rec) [16]int {
	k, v := three(x.Key), three(x.Val)
	if x.Kind == 2 {
		v = [3]int{x.Child, 0, 0}
	}
	return sealed([16]int{x.Kind, 32*len(x.Key) + len(x.Val), 0, k[0], k[1], k[2], v[0], v[1], v[2]})
}

// text is that of n bytes in three words, and whether there is one: the words are numbers of seven bytes, with nothing behind the last one.
func text(l []int, n int) (string, bool) {
	var b []byte
	for _, w := range l {
		if w < 0 || w >= 1<<56 {
			return "", false
		}
		b = append(b, binary.BigEndian.AppendUint64(nil, uint64(w))[1:]...)
	}
	return string(b[:n]), strings.Trim(string(b[n:]), "\x00") == ""
}

// asked is what the document asks of Read of sixteen words, found by going through them one by one.
func asked(w [16]int) (api.Rec, api.Errno) {
	rest := w[9:]
	if w[0] != 1 && w[0] != 2 || w[1] < 0 || w[1]/32 > 21 || w[1]%32 > 21 || w[2] != check(w) || slices.Min(rest) != 0 || slices.Max(rest) != 0 {
		return api.Rec{}, api.ErrRec
	}
	x := api.Rec{Kind: w[0]}
	key, ok := text(w[3:6], w[1]/32)
	x.Key = key
	if w[0] == 2 {
		x.Child = w[6]
		ok = ok && w[1]%32 == 0 && w[7] == 0 && w[8] == 0
	} else {
		val, also := text(w[6:9], w[1]%32)
		x.Val = val
		ok = ok && also
	}
	if !ok || !mayBe(x) {
		return api.Rec{}, api.ErrRec
	}
	return x, api.OK
}

// reads holds Read of sixteen words against the document, and tells whether they are a record's.
func reads(t *testing.T, w [16]int) bool {
	t.Helper()
	want, told := asked(w)
	if x, e := rec.Read(w[:], 0); x != want || e != told {
		t.Fatalf("Read(%v): %+v, %v, not %+v, %v", w, x, e, want, told)
	}
	return told == api.OK
}

// P7.1: Check and Words of all kinds, keys, values and children.
func TestAll(t *testing.T) {
	ok := map[int]int{}
	all(func(x api.Rec) {
		want := mayBe(x)
		if got := rec.Check(x); got != want {
			t.Fatalf("Check(%+v): %v", x, got)
		}
		l, e := rec.Words(x)
		if !want && (len(l) != 0 || e != api.ErrRec) {
			t.Fatalf("Words(%+v): %v, %v", x, l, e)
		}
		if !want {
			return
		}
		ok[x.Kind]++
		if w := sentence(x); !slices.Equal(l, w[:]) || e != api.OK {
			t.Fatalf("Words(%+v): %v, %v", x, l, e)
		}
	})
	if len(ok) != 2 || ok[1] == 0 || ok[2] == 0 {
		t.Error(ok)
	}
}

// P7.1: Check, written out.
func TestCheck(t *testing.T) {
	long := strings.Repeat("k", 22)
	for i, c := range []struct {
		x  api.Rec
		ok bool
	}{
		{api.Rec{}, false},
		{api.Rec{Kind: 1}, false}, {api.Rec{Kind: 1, Key: "a"}, true}, {api.Rec{Kind: 1, Key: "\x00", Val: "\xff"}, true},
		{api.Rec{Kind: 1, Val: "b"}, false}, {api.Rec{Kind: 1, Key: long[:21], Val: long[:21]}, true},
		{api.Rec{Kind: 1, Key: long}, false}, {api.Rec{Kind: 1, Key: "a", Val: long}, false},
		{api.Rec{Kind: 1, Key: "a", Child: 1}, false}, {api.Rec{Kind: 1, Key: "a", Child: -1}, false}, {api.Rec{Kind: 1, Key: "a", Child: 256}, false},
		{api.Rec{Kind: 2}, false}, {api.Rec{Kind: 2, Child: 1}, true}, {api.Rec{Kind: 2, Child: 255}, true}, {api.Rec{Kind: 2, Child: 256}, false},
		{api.Rec{Kind: 2, Child: -1}, false}, {api.Rec{Kind: 2, Key: "a"}, false}, {api.Rec{Kind: 2, Key: "a", Child: 7}, true},
		{api.Rec{Kind: 2, Key: long[:21], Child: 7}, true}, {api.Rec{Kind: 2, Key: long, Child: 7}, false},
		{api.Rec{Kind: 2, Key: "a", Val: "b", Child: 7}, false}, {api.Rec{Kind: 2, Val: "\x00", Child: 7}, false},
		{api.Rec{Kind: 0, Key: "a"}, false}, {api.Rec{Kind: 3, Key: "a"}, false}, {api.Rec{Kind: -1, Key: "a"}, false}, {api.Rec{Kind: -2, Key: "a", Child: 1}, false},
		{api.Rec{Kind: 3, Key: "a", Child: 1}, false}, {api.Rec{Kind: 1, Key: strings.Repeat("k", 1<<20)}, false},
	} {
		if got := rec.Check(c.x); got != c.ok {
			t.Errorf("row %d: %v", i, got)
		}
	}
}

// P7.1: all sixteen words, written out, their checks too.
func TestWords(t *testing.T) {
	const seven, most = 0x61626364656667, 1<<56 - 1
	long, full := "abcdefghijklmnopqrstu", strings.Repeat("\xff", 21)
	for i, c := range []struct {
		x api.Rec
		w [16]int
	}{
		{api.Rec{Kind: 1, Key: "a", Val: "b"}, [16]int{1, 33, 0x26E4DA4, 97 << 48, 0, 0, 98 << 48}},
		{api.Rec{Kind: 1, Key: "a"}, [16]int{1, 32, 0xCBFDC636, 97 << 48}},
		{api.Rec{Kind: 1, Key: "\x00", Val: "\x00\x00"}, [16]int{1, 34, 0x3E549294}},
		{api.Rec{Kind: 1, Key: "abcdefgh", Val: "abcdefg"}, [16]int{1, 263, 0x8C5652FC, seven, 104 << 48, 0, seven}},
		{api.Rec{Kind: 1, Key: long, Val: full}, [16]int{1, 693, 0xAA16A047, seven, 0x68696a6b6c6d6e, 0x6f707172737475, most, most, most}},
		{api.Rec{Kind: 2, Child: 1}, [16]int{2, 0, 0x794F8A72, 0, 0, 0, 1}},
		{api.Rec{Kind: 2, Key: "abcdefg", Child: 255}, [16]int{2, 224, 0x41174432, seven, 0, 0, 255}},
		{api.Rec{Kind: 2, Key: full, Child: 128}, [16]int{2, 672, 0x36D7F300, most, most, most, 128}},
	} {
		if l, e := rec.Words(c.x); !slices.Equal(l, c.w[:]) || e != api.OK {
			t.Errorf("row %d: %x, %v", i, l, e)
		}
		if x, e := rec.Read(c.w[:], 0); x != c.x || e != api.OK {
			t.Errorf("row %d: %+v, %v", i, x, e)
		}
	}
}

// P7.2: each record from the first block, a middle one, and the last one, with words behind it that are no whole block, and others in all other blocks.
func TestReadBlocks(t *testing.T) {
	for _, behind := range []int{0, 1, 15} {
		for _, x := range some() {
			w := sentence(x)
			for _, at := range []int{0, 3, 6} {
				words := slices.Repeat([]int{-5}, 7*16+behind)
				copy(words[16*at:], w[:])
				for block := range 7 {
					want, told := api.Rec{}, api.ErrRec
					if block == at {
						want, told = x, api.OK
					}
					if got, e := rec.Read(words, block); got != want || e != told {
						t.Fatalf("%+v in block %d, and %d words: Read of %d: %+v, %v", x, at, behind, block, got, e)
					}
				}
			}
		}
	}
}

// P7.2: the last block of the greatest memory, and one behind it: what is in words is read, however many these are.
func TestReadFar(t *testing.T) {
	x := api.Rec{Kind: 1, Key: "far", Val: "off"}
	w := sentence(x)
	for _, at := range []int{255, 256, 1000} {
		words := append(make([]int, 16*at), w[:]...)
		if got, e := rec.Read(words, at); got != x || e != api.OK {
			t.Errorf("block %d: %+v, %v", at, got, e)
		}
		if got, e := rec.Read(words, at+1); got != (api.Rec{}) || e != api.ErrArg {
			t.Errorf("block %d: %+v, %v", at+1, got, e)
		}
		if got, e := rec.Read(words, at-1); got != (api.Rec{}) || e != api.ErrRec {
			t.Errorf("block %d: %+v, %v", at-1, got, e)
		}
	}
}

// P7.2: no such whole block, of records and of other words alike; spare room is no part of words.
func TestReadNoBlock(t *testing.T) {
	x := api.Rec{Kind: 1, Key: "a", Val: "b"}
	w := sentence(x)
	room := slices.Repeat(w[:], 6)
	blocks := append([]int{-17, -16, -15, -2, -1, 0, 1, 2, 3, 4, 5, 6, 7, 255, 256}, utmost...)
	for length := range 5*16 + 1 {
		for _, block := range blocks {
			want, told := api.Rec{}, api.ErrArg
			if block >= 0 && block < length/16 {
				want, told = x, api.OK
			}
			if got, e := rec.Read(room[:length], block); got != want || e != told {
				t.Fatalf("%d words, block %d: %+v, %v", length, block, got, e)
			}
			if told == api.OK {
				told = api.ErrRec
			}
			if got, e := rec.Read(make([]int, length), block); got != (api.Rec{}) || e != told {
				t.Fatalf("%d words of 0, block %d: %+v, %v", length, block, got, e)
			}
		}
	}
	for _, block := range blocks {
		if got, e := rec.Read(nil, block); got != (api.Rec{}) || e != api.ErrArg {
			t.Errorf("no words, block %d: %+v, %v", block, got, e)
		}
	}
	// Sixteen times each of these is, as an int, a place of words.
	for _, block := range []int{1 << 60, 1<<60 + 1, 1<<61 + 2, 1 << 62, 1<<62 + 5, math.MinInt, math.MinInt + 1, -1<<60 + 1, -1<<62 + 3} {
		if got, e := rec.Read(room, block); got != (api.Rec{}) || e != api.ErrArg {
			t.Errorf("block %d: %+v, %v", block, got, e)
		}
	}
}

// others are what a word may be changed to: in its first half alone, in its last one alone.
func others(w int) []int {
	high, low := w>>32, w&(1<<32-1)
	var out []int
	for bit := range 64 {
		out = append(out, w^1<<bit)
	}
	for _, h := range []int{0, 1, -1, 97, 1 << 24, 1<<24 - 1, math.MaxInt32, math.MinInt32, high + 1, high - 1, ^high, high ^ 0x0F0F0F0F, low} {
		out = append(out, h<<32|low, high<<32|h&(1<<32-1))
	}
	return slices.DeleteFunc(out, func(x int) bool { return x == w })
}

// P7.4: a record of which one half of a word was changed is none, the check's own too.
func TestHalfChanged(t *testing.T) {
	for _, x := range some() {
		w := sentence(x)
		for i := range w {
			for _, word := range others(w[i]) {
				with := w
				with[i] = word
				if got, e := rec.Read(with[:], 0); got != (api.Rec{}) || e != api.ErrRec {
					t.Fatalf("%+v, word %d from %x to %x: %+v, %v", x, i, w[i], word, got, e)
				}
			}
		}
	}
}

// P7.2: a word that was changed in both halves, or is below 0.
func TestWordChanged(t *testing.T) {
	for _, x := range some() {
		w := sentence(x)
		for i := range w {
			for _, word := range []int{^w[i], -1, -2, math.MinInt, math.MinInt + 1, math.MaxInt, -w[i], w[i] ^ (1<<32 + 1), w[i] ^ (math.MinInt + 1<<31), w[i] - 1<<56, w[i] - 1<<32 - 1, 1<<56 + w[i] ^ 1, 0x0102030405060708} {
				with := w
				with[i] = word
				if reads(t, with) != (word == w[i]) {
					t.Fatalf("%+v, word %d from %x to %x", x, i, w[i], word)
				}
			}
		}
	}
}

// P7.2: words that are right but for their check: that of other words, of all sixteen, of those behind it alone, and numbers whose last 32 bits are right.
func TestCheckWrong(t *testing.T) {
	for _, x := range some() {
		w := sentence(x)
		with := w
		with[2] = 0
		var whole []byte
		for _, word := range with {
			whole = binary.BigEndian.AppendUint64(whole, uint64(word))
		}
		for _, sum := range []int{0, 1, -1, w[2] + 1, w[2] - 1, -w[2], ^w[2], 1<<32 - 1 - w[2], w[2] + 1<<32, w[2] - 1<<32, w[2] | math.MinInt, int(crc32.ChecksumIEEE(whole)), int(crc32.ChecksumIEEE(whole[24:])), int(crc32.ChecksumIEEE(whole[:72]))} {
			with[2] = sum
			if reads(t, with) {
				t.Fatalf("%+v, check %x, not %x", x, sum, w[2])
			}
		}
	}
}

// P7.2: words whose check is right, and of which one of the seven of 0 is not 0.
func TestRestWrong(t *testing.T) {
	for _, x := range some() {
		for i := 9; i < 16; i++ {
			for _, word := range []int{1, -1, 2, 1 << 32, 1 << 48, 97 << 48, math.MaxInt, math.MinInt} {
				with := sentence(x)
				with[i] = word
				if reads(t, sealed(with)) {
					t.Fatalf("%+v, %x as word %d", x, word, i)
				}
			}
		}
	}
}

// P7.2: words whose check is right, and that have something behind a key's, or a value's, last byte.
func TestBehindLastByte(t *testing.T) {
	for _, x := range some() {
		for _, c := range [][2]int{{3, len(x.Key)}, {6, len(x.Val)}} {
			first, n := c[0], c[1]
			for i := range 3 {
				for bit := range 64 {
					inside := bit < 56 && i*7+(55-bit)/8 < n
					if inside || x.Kind == 2 && first == 6 {
						continue
					}
					with := sentence(x)
					with[first+i] ^= 1 << bit
					if reads(t, sealed(with)) {
						t.Fatalf("%+v, bit %d of word %d", x, bit, first+i)
					}
				}
			}
		}
	}
}

// P7.2: words whose check is right, and whose Child, and what stands behind it, is any number.
func TestChildWrong(t *testing.T) {
	for _, key := range []string{"", "a", "abcdefgh"} {
		for _, child := range append(children, -97<<48, 97<<48, 1<<56) {
			with := sentence(api.Rec{Kind: 2, Key: key, Child: 1})
			with[6] = child
			if reads(t, sealed(with)) != (child >= 1 && child <= 255) {
				t.Errorf("key %q, child %d", key, child)
			}
			for _, i := range []int{7, 8} {
				with[6], with[7], with[8] = 5, 0, 0
				with[i] = child
				if reads(t, sealed(with)) != (child == 0) {
					t.Errorf("key %q, %d as word %d", key, child, i)
				}
			}
		}
	}
}

// P7.2: words whose check is right, and whose kind is any number.
func TestKindWrong(t *testing.T) {
	for _, x := range some() {
		for _, kind := range kinds {
			with := sentence(x)
			with[0] = kind
			if got := reads(t, sealed(with)); got && kind != 1 && kind != 2 || kind == x.Kind && !got {
				t.Fatalf("%+v as one of the kind %d", x, kind)
			}
		}
	}
}

// P7.2: words whose check is right, and whose numbers of bytes are any: they are a record's only where no byte is lost, and there are not too many.
func TestSizesWrong(t *testing.T) {
	read := 0
	for _, x := range some() {
		for _, size := range append(utmost, 32*1<<32+33, -32*22, 1<<56, 1<<58+33) {
			with := sentence(x)
			with[1] = size
			if reads(t, sealed(with)) {
				t.Fatalf("%+v, %d as its numbers of bytes", x, size)
			}
		}
		for size := -70; size <= 32*40; size++ {
			with := sentence(x)
			with[1] = size
			if reads(t, sealed(with)) {
				read++
			}
		}
	}
	if read <= len(some()) {
		t.Error(read)
	}
	// A key's bytes of 0 are its own, as its number of bytes says.
	with := sentence(api.Rec{Kind: 1, Key: "a", Val: "b"})
	with[1] = 32*3 + 2
	with = sealed(with)
	if x, e := rec.Read(with[:], 0); x != (api.Rec{Kind: 1, Key: "a\x00\x00", Val: "b\x00"}) || e != api.OK {
		t.Errorf("%+v, %v", x, e)
	}
}

// P7.2: words that are all one number, or a record's but for where they stand.
func TestOtherWords(t *testing.T) {
	for _, word := range append([]int{-1, 0, 1, 2, 7, 255}, utmost...) {
		w := [16]int(slices.Repeat([]int{word}, 16))
		if reads(t, w) || reads(t, sealed(w)) {
			t.Errorf("sixteen of %d", word)
		}
	}
	for _, x := range some() {
		w := sentence(x)
		words := slices.Concat(make([]int, 16), w[:], make([]int, 16))
		for first := range 33 {
			if reads(t, [16]int(words[first:])) != (first == 16) {
				t.Fatalf("%+v, from word %d on", x, first)
			}
		}
	}
}

// P7.3: the very steps, of each block, with any words.
func TestSteps(t *testing.T) {
	lists := [][]int{make([]int, 16), slices.Repeat([]int{-1}, 16), slices.Repeat([]int{math.MaxInt}, 16), slices.Repeat([]int{math.MinInt}, 16)}
	for i := range 16 {
		l := []int{100, 101, 102, 103, 104, 105, 106, 107, 108, 109, 110, 111, 112, 113, 114, 115}
		l[i] = -i
		lists = append(lists, l)
	}
	for block := range 256 {
		for _, l := range lists {
			var want []api.Micro
			for i, val := range l {
				want = append(want, api.Micro{Kind: 1, At: 16*block + i, Val: val})
			}
			want = append(want, api.Micro{Kind: 2, At: 2 * block}, api.Micro{Kind: 2, At: 2*block + 1})
			if got, e := rec.Steps(block, l); !slices.Equal(got, want) || e != api.OK || !micro.Check(got, api.MaxWords) {
				t.Fatalf("Steps(%d, %v): %v, %v", block, l, got, e)
			}
		}
	}
}

// P7.3: steps written out, of the first block and of the last one.
func TestStepsWords(t *testing.T) {
	l := []int{1, 33, 5, 97 << 48, 0, 0, -7, 0, 0, 0, 0, 0, 0, 0, 0, 9}
	for block, first := range map[int][2]int{0: {0, 0}, 255: {4080, 510}} {
		got, e := rec.Steps(block, l)
		if e != api.OK || len(got) != 18 {
			t.Fatalf("block %d: %v, %v", block, got, e)
		}
		for i, x := range map[int]api.Micro{
			0: {Kind: 1, At: first[0], Val: 1}, 1: {Kind: 1, At: first[0] + 1, Val: 33}, 3: {Kind: 1, At: first[0] + 3, Val: 97 << 48},
			6: {Kind: 1, At: first[0] + 6, Val: -7}, 8: {Kind: 1, At: first[0] + 8}, 15: {Kind: 1, At: first[0] + 15, Val: 9},
			16: {Kind: 2, At: first[1]}, 17: {Kind: 2, At: first[1] + 1},
		} {
			if got[i] != x {
				t.Errorf("block %d, step %d: %v", block, i, got[i])
			}
		}
	}
}

// P7.3: blocks that may not be, and words that are not sixteen.
func TestStepsWrong(t *testing.T) {
	room := make([]int, 5000)
	for _, n := range []int{0, 1, 8, 14, 15, 16, 17, 18, 31, 32, 4096, 5000} {
		for _, block := range append([]int{-257, -256, -17, -16, -1, 0, 1, 254, 255, 256, 257, 4095, 4096}, utmost...) {
			told, steps := api.ErrArg, 0
			if n == 16 && block >= 0 && block <= 255 {
				told, steps = api.OK, 18
			}
			if got, e := rec.Steps(block, room[:n]); len(got) != steps || e != told {
				t.Errorf("Steps(%d, %d words): %v, %v", block, n, got, e)
			}
		}
	}
	if got, e := rec.Steps(0, nil); len(got) != 0 || e != api.ErrArg {
		t.Errorf("Steps of nothing: %v, %v", got, e)
	}
}

// P7.4: each record that may be is read as it was laid, and each unlike one has unlike words.
func TestThereAndBack(t *testing.T) {
	has := map[[16]int]api.Rec{}
	all(func(x api.Rec) {
		l, e := rec.Words(x)
		if e != api.OK {
			return
		}
		if y, e := rec.Read(l, 0); y != x || e != api.OK {
			t.Fatalf("%+v: %+v, %v", x, y, e)
		}
		if y, ok := has[[16]int(l)]; ok {
			t.Fatalf("%+v and %+v have the same words", x, y)
		}
		has[[16]int(l)] = x
	})
}

// P7.4: a record that is laid by its steps is read from what is seen, and from what a crash leaves behind all of them; no other word is changed.
func TestLaid(t *testing.T) {
	old := sentence(api.Rec{Kind: 1, Key: "an older key, kept", Val: "an older value"})
	for _, from := range [][]int{make([]int, 64), slices.Repeat(old[:], 4), slices.Repeat([]int{-1}, 64)} {
		m, _ := pmem.New(from)
		for _, x := range some() {
			l, _ := rec.Words(x)
			for _, block := range []int{0, 2, 3} {
				steps, e := rec.Steps(block, l)
				next, f := micro.Run(m, steps)
				if got, g := rec.Read(next.Vol, block); got != x || e != api.OK || f != api.OK || g != api.OK {
					t.Fatalf("%+v: %+v is seen, %v, %v, %v", x, got, e, f, g)
				}
				words, _ := micro.Crash(m, steps, len(steps), nil)
				if got, e := rec.Read(words, block); got != x || e != api.OK {
					t.Fatalf("%+v: %+v is kept, %v", x, got, e)
				}
				if !slices.Equal(words[:16*block], from[:16*block]) || !slices.Equal(words[16*block+16:], from[16*block+16:]) {
					t.Fatalf("%+v in block %d: other words were changed", x, block)
				}
			}
		}
	}
}

// withRoom is a list of those of l, with room behind it, and what tells whether all of that is as it was.
func withRoom(l []int) ([]int, func() bool) {
	whole := append(slices.Clone(l), -77, -78, -79)
	was := slices.Clone(whole)
	return whole[:len(l)], func() bool { return slices.Equal(whole, was) }
}

// R4: what is handed in stays as it was, its spare room too, in the call and behind it, whatever is done to the answer.
func TestHandedIn(t *testing.T) {
	for _, x := range some() {
		w := sentence(x)
		for _, n := range []int{0, 15, 16} {
			l, same := withRoom(w[:n])
			for _, block := range []int{-1, 0, 1, 255, 256} {
				got, _ := rec.Read(l, block)
				was := strings.Clone(got.Key) + "," + strings.Clone(got.Val)
				steps, _ := rec.Steps(block, l)
				for i := range steps[:cap(steps)] {
					steps[:cap(steps)][i] = api.Micro{Kind: 9, At: 9, Val: 9}
				}
				if !same() {
					t.Fatalf("%+v: block %d: what was handed in is another one", x, block)
				}
				again, _ := withRoom(l)
				other, _ := rec.Read(again, block)
				for i := range again {
					again[i] = 0x7a7a7a7a7a7a7a
				}
				if other != got || other.Key+","+other.Val != was {
					t.Fatalf("%+v: block %d: the record was kept in its words", x, block)
				}
			}
		}
	}
}

// R4: answers share nothing with each other, their spare room too.
func TestNothingShared(t *testing.T) {
	x := api.Rec{Kind: 1, Key: "a", Val: "b"}
	w := sentence(x)
	a, _ := rec.Words(x)
	b, _ := rec.Words(x)
	for i := range a[:cap(a)] {
		a[:cap(a)][i] = -9
	}
	if c, e := rec.Words(x); !slices.Equal(b, w[:]) || !slices.Equal(c, w[:]) || e != api.OK {
		t.Error("words share memory")
	}
	s, _ := rec.Steps(1, w[:])
	r, _ := rec.Steps(1, w[:])
	was := slices.Clone(r)
	for i := range s[:cap(s)] {
		s[:cap(s)][i] = api.Micro{}
	}
	if !slices.Equal(r, was) || w != sentence(x) {
		t.Error("steps share memory")
	}
}
