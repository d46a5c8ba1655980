package super_test

import (
	"encoding/binary"
	"hash/crc32"
	"math"
	"slices"
	"testing"

	"lamplighter/api"
	"lamplighter/micro"
	"lamplighter/pmem"
	"lamplighter/super"
)

// utmost are numbers far off all that may be.
var utmost = []int{math.MinInt, math.MinInt + 1, math.MinInt + 2, -1 << 32, -7015, 7015, 1 << 16, 1<<16 + 2, 1 << 32, 1<<32 + 1, 1<<32 + 2, 1<<32 + 256, 1 << 60, 1<<60 + 2, math.MaxInt - 1, math.MaxInt}

// roots are those of so many blocks: below 0, 0, the first ones, the last ones, one too many, and far off.
func roots(blocks int) []int {
	out := append([]int{-256, -2, -1, 0, 1, 2, 3, blocks / 2, blocks - 2, blocks - 1, blocks, blocks + 1, -blocks, 254, 255, 256, 257}, utmost...)
	slices.Sort(out)
	return slices.Compact(out)
}

// mayBe is the document's sentence on arenas.
func mayBe(blocks, root int) bool {
	for n := 2; n <= 256; n++ {
		for r := 1; r <= n-1; r++ {
			if n == blocks && r == root {
				return true
			}
		}
	}
	return false
}

// check is that of two words, as Go's own library has it.
func check(a, b int) int {
	l := binary.BigEndian.AppendUint64(nil, uint64(a))
	return int(crc32.ChecksumIEEE(binary.BigEndian.AppendUint64(l, uint64(b))))
}

// sentence are a first block's words, as the document says it.
func sentence(blocks, root int) []int {
	return []int{7015, blocks, check(7015, blocks), root, 0, 0, 0, 0, 0, 0, 0, 0, 0, 0, 0, 0}
}

// arena are so many words, with the first block's ahead; the others are not 0, as what they are is nothing to Read.
func arena(blocks, root, words int) []int {
	out := sentence(blocks, root)
	for len(out) < words {
		out = append(out, 1000+len(out))
	}
	return out[:words]
}

// asked is what the document asks of Read: its first sixteen words are held against those of all roots that may be.
func asked(words []int) (int, int, api.Errno) {
	blocks := len(words) / 16
	if blocks < 2 || blocks > 256 {
		return 0, 0, api.ErrSuper
	}
	for root := 1; root < blocks; root++ {
		if slices.Equal(words[:16], sentence(blocks, root)) {
			return blocks, root, api.OK
		}
	}
	return 0, 0, api.ErrSuper
}

// reads holds Read against the document, and against what stays as it was; it tells whether words have a first block.
func reads(t *testing.T, words []int) bool {
	t.Helper()
	was := slices.Clone(words)
	n, r, told := asked(words)
	blocks, root, e := super.Read(words)
	if blocks != n || root != r || e != told {
		t.Fatalf("Read(%d words, %v): %d, %d, %v, not %d, %d, %v", len(words), words[:min(16, len(words))], blocks, root, e, n, r, told)
	}
	if !slices.Equal(words, was) {
		t.Fatalf("Read has changed %v", was)
	}
	return told == api.OK
}

// P8.1: Words and Root of all blocks and roots that may be, of those at the edges, and of others.
func TestAll(t *testing.T) {
	numbers := append([]int{-257, -256, -3, -2, -1}, utmost...)
	for n := range 260 {
		numbers = append(numbers, n)
	}
	ok := 0
	for _, blocks := range numbers {
		for _, root := range append(roots(blocks), numbers...) {
			l, e := super.Words(blocks, root)
			s, f := super.Root(blocks, root)
			if !(blocks >= 2 && blocks <= 256 && root >= 1 && root <= blocks-1) {
				if len(l) != 0 || len(s) != 0 || e != api.ErrArg || f != api.ErrArg {
					t.Fatalf("%d, %d: %v, %v, %v, %v", blocks, root, l, e, s, f)
				}
				continue
			}
			ok++
			if !slices.Equal(l, sentence(blocks, root)) || e != api.OK {
				t.Fatalf("Words(%d, %d): %v, %v", blocks, root, l, e)
			}
			if !slices.Equal(s, []api.Micro{{Kind: 1, At: 3, Val: root}, {Kind: 2, At: 0, Val: 0}}) || f != api.OK {
				t.Fatalf("Root(%d, %d): %v, %v", blocks, root, s, f)
			}
		}
	}
	if ok < 255*256/2 {
		t.Error(ok)
	}
}

// P8.1: what may be and what may not, written out.
func TestMayBe(t *testing.T) {
	for i, c := range []struct {
		blocks, root int
		ok           bool
	}{
		{2, 1, true}, {3, 1, true}, {3, 2, true}, {256, 1, true}, {256, 255, true},
		{2, 0, false}, {2, 2, false}, {2, 3, false}, {2, -1, false}, {3, 0, false}, {3, 3, false}, {256, 0, false}, {256, 256, false}, {256, -1, false},
		{1, 0, false}, {1, 1, false}, {1, -1, false}, {0, 0, false}, {0, -1, false}, {0, 1, false}, {-1, -2, false}, {-1, 1, false}, {-2, -1, false},
		{257, 0, false}, {257, 1, false}, {257, 255, false}, {257, 256, false}, {257, 257, false},
		{math.MaxInt, 1, false}, {math.MaxInt, math.MaxInt - 1, false}, {math.MinInt, 1, false}, {math.MinInt, math.MaxInt, false}, {2, math.MaxInt, false}, {2, math.MinInt, false},
		{1<<32 + 2, 1, false}, {2, 1<<32 + 1, false}, {1 << 60, 1, false},
	} {
		want := api.ErrArg
		if c.ok {
			want = api.OK
		}
		_, e := super.Words(c.blocks, c.root)
		_, f := super.Root(c.blocks, c.root)
		if e != want || f != want || mayBe(c.blocks, c.root) != c.ok {
			t.Errorf("row %d: %v, %v", i, e, f)
		}
	}
}

// P8.1: first blocks' words, and Root's steps, written out.
func TestWritten(t *testing.T) {
	for i, c := range []struct {
		blocks, root int
		words        []int
		steps        []api.Micro
	}{
		{2, 1, []int{7015, 2, 3858349067, 1, 0, 0, 0, 0, 0, 0, 0, 0, 0, 0, 0, 0}, []api.Micro{{Kind: 1, At: 3, Val: 1}, {Kind: 2, At: 0, Val: 0}}},
		{3, 2, []int{7015, 3, 2466155677, 2, 0, 0, 0, 0, 0, 0, 0, 0, 0, 0, 0, 0}, []api.Micro{{Kind: 1, At: 3, Val: 2}, {Kind: 2, At: 0, Val: 0}}},
		{256, 255, []int{7015, 256, 317516902, 255, 0, 0, 0, 0, 0, 0, 0, 0, 0, 0, 0, 0}, []api.Micro{{Kind: 1, At: 3, Val: 255}, {Kind: 2, At: 0, Val: 0}}},
	} {
		l, e := super.Words(c.blocks, c.root)
		s, f := super.Root(c.blocks, c.root)
		if !slices.Equal(l, c.words) || e != api.OK || !slices.Equal(s, c.steps) || f != api.OK {
			t.Errorf("row %d: %v, %v, %v, %v", i, l, e, s, f)
		}
	}
}

// P8.2, P8.3: each first block, read back from words of just as many whole blocks, and of up to fifteen words more.
func TestReadBack(t *testing.T) {
	for blocks := 2; blocks <= 256; blocks++ {
		for root := 1; root < blocks; root++ {
			l, _ := super.Words(blocks, root)
			words := arena(blocks, root, 16*blocks+15)
			copy(words, l)
			more := []int{0, 1, 7, 8, 15}
			if blocks < 5 || root == 1 || root == blocks-1 {
				more = []int{0, 1, 2, 3, 4, 5, 6, 7, 8, 9, 10, 11, 12, 13, 14, 15}
			}
			for _, n := range more {
				if b, r, e := super.Read(words[:16*blocks+n]); b != blocks || r != root || e != api.OK {
					t.Fatalf("%d, %d and %d words: %d, %d, %v", blocks, root, n, b, r, e)
				}
			}
		}
	}
}

// P8.2: no words, fewer than sixteen, one block alone, words of fewer blocks and of more than the first block says.
func TestSizes(t *testing.T) {
	for _, blocks := range []int{2, 3, 4, 5, 128, 255, 256} {
		for _, root := range []int{1, blocks - 1} {
			ok := 0
			for n := range 16*257 + 33 {
				if n > 100 && n < 16*blocks-40 || n > 16*blocks+60 && n < 16*257-20 {
					continue
				}
				if reads(t, arena(blocks, root, n)) {
					ok++
				}
			}
			if ok != 16 {
				t.Errorf("%d, %d: %d sizes", blocks, root, ok)
			}
		}
	}
	if b, r, e := super.Read(nil); b != 0 || r != 0 || e != api.ErrSuper {
		t.Errorf("%d, %d, %v", b, r, e)
	}
	if b, r, e := super.Read([]int{}); b != 0 || r != 0 || e != api.ErrSuper {
		t.Errorf("%d, %d, %v", b, r, e)
	}
}

// P8.2: first blocks of fewer and of more blocks than an arena may have, and of others, in words that have just as many blocks, or as many as may be.
func TestBlocks(t *testing.T) {
	for blocks := range 520 {
		for _, root := range []int{-1, 0, 1, 2, blocks - 1, blocks, blocks + 1} {
			if ok := reads(t, arena(blocks, root, 16*blocks)); ok != mayBe(blocks, root) {
				t.Fatalf("%d, %d: %v", blocks, root, ok)
			}
		}
	}
	for _, said := range append([]int{-256, -2, -1, 0, 1, 2, 3, 255, 256, 257}, utmost...) {
		for _, blocks := range []int{1, 2, 3, 255, 256, 257} {
			for _, root := range roots(blocks) {
				if ok := reads(t, arena(said, root, 16*blocks+3)); ok != (said == blocks && mayBe(blocks, root)) {
					t.Fatalf("%d, %d in %d: %v", said, root, blocks, ok)
				}
			}
		}
	}
}

// others are what a word may become instead: each of its bits turned, and numbers near it and far off.
func others(w int) []int {
	out := append([]int{w - 1, w + 1, w - 16, w + 16, -w, ^w, 2 * w, 0, 1, 2, -1}, utmost...)
	for i := range 64 {
		out = append(out, w^1<<i)
	}
	return slices.DeleteFunc(out, func(x int) bool { return x == w })
}

// P8.2: first blocks of which one word is another one, with the check left as it was, and made right again.
func TestOtherWords(t *testing.T) {
	for _, blocks := range []int{2, 3, 200, 255, 256} {
		for _, root := range []int{1, blocks - 1} {
			words := arena(blocks, root, 16*blocks+5)
			for at := range 16 {
				was := words[at]
				for _, w := range others(was) {
					words[at] = w
					if ok := reads(t, words); ok != (at == 3 && w >= 1 && w < blocks) {
						t.Fatalf("%d, %d: word %d is %d: %v", blocks, root, at, w, ok)
					}
					kept := words[2]
					words[2] = check(words[0], words[1])
					if ok := reads(t, words); at != 2 && ok != (at == 3 && w >= 1 && w < blocks) {
						t.Fatalf("%d, %d: word %d is %d, with its check: %v", blocks, root, at, w, ok)
					}
					words[2] = kept
				}
				words[at] = was
			}
			if !reads(t, words) {
				t.Fatalf("%d, %d", blocks, root)
			}
		}
	}
}

// P8.2: checks that are not those of the first two words: those of one word, of three, of four, of sixteen, of none, with bits turned, and with what 32 bits leave out.
func TestOtherChecks(t *testing.T) {
	words := arena(5, 3, 80)
	right := words[2]
	whole := binary.BigEndian.AppendUint64(nil, 7015)
	whole = binary.BigEndian.AppendUint64(whole, 5)
	three := binary.BigEndian.AppendUint64(slices.Clone(whole), 3)
	for i, c := range []int{
		int(crc32.ChecksumIEEE(whole[:8])), int(crc32.ChecksumIEEE(whole[8:])), int(crc32.ChecksumIEEE(three)),
		int(crc32.ChecksumIEEE(append(slices.Clone(three), make([]byte, 96)...))), int(crc32.ChecksumIEEE(nil)), check(5, 7015), check(7015, 4), check(7015, 6),
		right ^ (1<<32 - 1), right | 1<<32, right - 1<<32, -right, int(int32(uint32(right))) - 1<<40,
	} {
		words[2] = c
		if b, r, e := super.Read(words); b != 0 || r != 0 || e != api.ErrSuper {
			t.Errorf("row %d: %d, %d, %v", i, b, r, e)
		}
	}
}

// P8.2: the document's example, and what the blocks behind the first one hold.
func TestExamples(t *testing.T) {
	l, _ := super.Words(2, 1)
	for _, fill := range append([]int{0, 1, -1, 7015}, utmost...) {
		words := append(slices.Clone(l), slices.Repeat([]int{fill}, 16)...)
		if b, r, e := super.Read(words); b != 2 || r != 1 || e != api.OK {
			t.Errorf("%d: %d, %d, %v", fill, b, r, e)
		}
	}
	if b, r, e := super.Read(slices.Concat(l, l)); b != 2 || r != 1 || e != api.OK {
		t.Errorf("%d, %d, %v", b, r, e)
	}
	if b, r, e := super.Read(append(make([]int, 16), l...)); b != 0 || r != 0 || e != api.ErrSuper {
		t.Errorf("%d, %d, %v", b, r, e)
	}
}

// P8.3: behind each number of Root's steps, whatever a crash keeps, the root is the old one or the new one; behind all of them it is the new one.
func TestAnotherRoot(t *testing.T) {
	for _, blocks := range []int{2, 3, 4, 9, 255, 256} {
		for _, from := range []int{1, blocks / 2, blocks - 1} {
			for _, to := range []int{1, 2, blocks / 2, blocks - 1} {
				if !mayBe(blocks, from) || !mayBe(blocks, to) {
					continue
				}
				m, e := pmem.New(arena(blocks, from, 16*blocks))
				steps, f := super.Root(blocks, to)
				if e != api.OK || f != api.OK || !micro.Check(steps, 16*blocks) {
					t.Fatalf("%d, %d: %v, %v", blocks, to, e, f)
				}
				rootGoes(t, m, steps, from, to)
			}
		}
	}
}

// rootGoes does the steps one by one, and looks at what is seen, and at what crashes leave.
func rootGoes(t *testing.T, m api.Mem, steps []api.Micro, from, to int) {
	t.Helper()
	blocks := len(m.Vol) / 16
	now := m
	for n := 0; n <= len(steps); n++ {
		if n > 0 {
			now, _ = micro.Do(now, steps[n-1])
		}
		seen, want := []int{from, to, to}[n], [][]int{{from}, {from, to}, {to}}[n]
		if b, r, e := super.Read(now.Vol); b != blocks || r != seen || e != api.OK {
			t.Fatalf("%d to %d, %d steps: %d, %d, %v is seen", from, to, n, b, r, e)
		}
		var kept []int
		for _, keep := range [][]int{nil, {0}, {1}, {2}, {9}, {0, 1}, {1, 1}, {-1}, {math.MaxInt}} {
			left, e := micro.Crash(m, steps, n, keep)
			b, r, f := super.Read(left)
			if b != blocks || e != api.OK || f != api.OK {
				t.Fatalf("%d to %d, %d steps, %v: %v; %d, %d, %v is kept", from, to, n, keep, e, b, r, f)
			}
			kept = append(kept, r)
		}
		slices.Sort(kept)
		slices.Sort(want)
		if !slices.Equal(slices.Compact(kept), slices.Compact(want)) {
			t.Fatalf("%d to %d, %d steps: %v are kept", from, to, n, kept)
		}
	}
}

// P8.3: one root behind another one, none of them crashed; and the same root again.
func TestRootsInTurn(t *testing.T) {
	m, _ := pmem.New(arena(40, 7, 640))
	was := slices.Clone(m.Vol)
	for i := range 200 {
		root := 1 + (i*i+i/3)%39
		steps, _ := super.Root(40, root)
		m, _ = micro.Run(m, steps)
		if b, r, e := super.Read(m.Per); b != 40 || r != root || e != api.OK || len(m.Pend) != 0 {
			t.Fatalf("%d: %d, %d, %v", i, b, r, e)
		}
		was[3] = root
		if !slices.Equal(m.Vol, was) || !slices.Equal(m.Per, was) {
			t.Fatalf("%d: other words are changed too", i)
		}
	}
}

// R4: what is handed to Read stays as it was, its spare room too, and hangs on neither that nor its capacity.
func TestSpareRoom(t *testing.T) {
	for _, n := range []int{0, 1, 15, 16, 17, 31, 32, 33, 47, 48, 49, 63} {
		room := arena(3, 2, 80)
		was := slices.Clone(room)
		b, r, e := super.Read(room[:n])
		c, s, f := super.Read(slices.Clip(slices.Clone(room[:n])))
		if b != c || r != s || e != f || (e == api.OK) != (n >= 48 && n < 64) {
			t.Errorf("%d: %d, %d, %v and %d, %d, %v", n, b, r, e, c, s, f)
		}
		if !slices.Equal(room, was) {
			t.Errorf("%d: %v", n, room)
		}
	}
}

// R4, R5: what is answered is new memory, its spare room too: writing there changes no other answer.
func TestAnswersAreNew(t *testing.T) {
	l, _ := super.Words(9, 4)
	s, _ := super.Root(9, 4)
	wide, far := l[:cap(l)], s[:cap(s)]
	for i := range wide {
		wide[i] = -5
	}
	for i := range far {
		far[i] = api.Micro{Kind: 7, At: 7, Val: 7}
	}
	again, _ := super.Words(9, 4)
	steps, _ := super.Root(9, 4)
	if !slices.Equal(again, sentence(9, 4)) || !slices.Equal(steps, []api.Micro{{Kind: 1, At: 3, Val: 4}, {Kind: 2}}) {
		t.Errorf("%v, %v", again, steps)
	}
	if wide[0] != -5 || far[0].Kind != 7 {
		t.Errorf("%v, %v", wide, far)
	}
}
