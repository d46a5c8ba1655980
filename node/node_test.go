package node_test

import (
	"math"
	"slices"
	"testing"

	"lamplighter/api"
	"lamplighter/micro"
	"lamplighter/node"
	"lamplighter/pmem"
)

// utmost are numbers far off all that may be.
var utmost = []int{math.MinInt, math.MinInt + 1, math.MinInt + 16, math.MinInt + 1<<60, -1 << 60, 16 - 1<<60, -1 << 40, -1 << 32, -1 << 16, 1 << 48, 1<<56 + 1, 1<<60 - 1, 1 << 60, 1<<60 + 1, 1<<60 + 16, 1<<60 + 255, 1 << 62, math.MaxInt - 15, math.MaxInt}

var (
	levels = append([]int{-16, -10, -9, -2, -1, 0, 1, 2, 8, 9, 10, 11, 15, 16, 17, 32, 256, 1 << 32, 1<<32 + 1, 1 << 40}, utmost...)
	turns  = append([]int{-2, -1, 0, 1, 2, 3, 15, 16, 17, 255, 256, 1<<32 - 1, 1 << 32, 1<<39 - 1, 1 << 39, 1<<40 - 2, 1<<40 - 1, 1 << 40, 1<<40 + 1, 1<<40 + 2, 1 << 41}, utmost...)
	blocks = append([]int{-256, -255, -16, -2, -1, 0, 1, 2, 3, 15, 16, 17, 127, 128, 254, 255, 256, 257, 300, 4096, 1 << 32, 1<<32 + 1, 1<<32 + 255, 1 << 40}, utmost...)
)

// in tells whether x is low to high.
func in(x, low, high int) bool { return low <= x && x <= high }

// mayBe is the document's sentence on nodes.
func mayBe(n api.Node) bool {
	for _, x := range n.Slots {
		if !in(x, 1, 255) {
			return false
		}
	}
	return in(n.Level, 0, 9) && in(n.Turn, 0, 1099511627776) && in(n.Next, 0, 255) && in(n.Low, 0, 255) && len(n.Slots) <= 13
}

// sentence is the document's sentence on a node's words.
func sentence(n api.Node) []int {
	out := append([]int{1152921504606846976 + 16*n.Turn + n.Level, n.Next, n.Low}, n.Slots...)
	for len(out) < 16 {
		out = append(out, 0)
	}
	return out
}

// same tells whether two nodes are one and the same.
func same(a, b api.Node) bool {
	return a.Level == b.Level && a.Turn == b.Turn && a.Next == b.Next && a.Low == b.Low && slices.Equal(a.Slots, b.Slots)
}

// ordinary is a node that may be, with each part another number.
func ordinary() api.Node {
	return api.Node{Level: 3, Turn: 6, Next: 17, Low: 40, Slots: []int{200, 7, 90, 1, 255, 64}}
}

// filled are n slots, unlike each other.
func filled(n int) []int {
	var out []int
	for i := range n {
		out = append(out, 255-i*19)
	}
	return out
}

// some are nodes that may be: the least, the greatest, ordinary ones, and those of all numbers of slots.
func some() []api.Node {
	out := []api.Node{{}, ordinary(), {Level: 9, Turn: 1 << 40, Next: 255, Low: 255, Slots: slices.Repeat([]int{255}, 13)}, {Turn: 1, Next: 5}, {Slots: []int{}}, {Turn: 3, Slots: []int{1, 1, 2}}, {Low: 1, Slots: []int{255, 255, 255}}}
	for n := range 14 {
		for _, turn := range []int{0, 1, 2, 1<<40 - 1, 1 << 40} {
			out = append(out, api.Node{Level: (n + turn%7) % 10, Turn: turn, Next: n * 19, Low: 255 - n*19, Slots: filled(n)})
		}
	}
	return out
}

// others are nodes with one part another number, and all else right; told beside each is whether it may be.
func others(each func(n api.Node, ok bool)) {
	for _, right := range some() {
		for _, x := range levels {
			n := right
			n.Level = x
			each(n, x >= 0 && x <= 9)
		}
		for _, x := range turns {
			n := right
			n.Turn = x
			each(n, x >= 0 && x <= 1<<40)
		}
		for _, x := range blocks {
			n, m := right, right
			n.Next, m.Low = x, x
			each(n, x >= 0 && x <= 255)
			each(m, x >= 0 && x <= 255)
			for i := range right.Slots {
				s := right
				s.Slots = slices.Clone(right.Slots)
				s.Slots[i] = x
				each(s, x >= 1 && x <= 255)
			}
		}
	}
}

// words holds Check and Words against the document.
func words(t *testing.T, n api.Node, ok bool) {
	t.Helper()
	l, e := node.Words(n)
	if !ok {
		if node.Check(n) || len(l) != 0 || e != api.ErrNode {
			t.Fatalf("%+v: %v, %v, %v", n, node.Check(n), l, e)
		}
		return
	}
	if !node.Check(n) || !slices.Equal(l, sentence(n)) || e != api.OK {
		t.Fatalf("%+v: %v, %v, %v", n, node.Check(n), l, e)
	}
}

// P9.1: Check and Words of nodes with one part just inside, just outside, below 0, and far off.
func TestParts(t *testing.T) {
	right, wrong := 0, 0
	others(func(n api.Node, ok bool) {
		if mayBe(n) != ok {
			t.Fatalf("%+v: %v", n, ok)
		}
		words(t, n, ok)
		if ok {
			right++
		} else {
			wrong++
		}
	})
	if right < 1000 || wrong < 1000 {
		t.Errorf("%d, %d", right, wrong)
	}
}

// P9.1: what may be and what may not, written out.
func TestMayBe(t *testing.T) {
	for i, c := range []struct {
		n  api.Node
		ok bool
	}{
		{api.Node{}, true},
		{api.Node{Level: 9}, true}, {api.Node{Level: 10}, false}, {api.Node{Level: 15}, false}, {api.Node{Level: 16}, false}, {api.Node{Level: -1}, false},
		{api.Node{Turn: 1}, true}, {api.Node{Turn: 1099511627776}, true}, {api.Node{Turn: 1099511627777}, false}, {api.Node{Turn: -1}, false}, {api.Node{Turn: math.MaxInt}, false}, {api.Node{Turn: math.MinInt}, false},
		{api.Node{Next: 255}, true}, {api.Node{Next: 256}, false}, {api.Node{Next: -1}, false}, {api.Node{Next: math.MaxInt}, false},
		{api.Node{Low: 255}, true}, {api.Node{Low: 256}, false}, {api.Node{Low: -1}, false}, {api.Node{Low: math.MinInt}, false},
		{api.Node{Slots: []int{1}}, true}, {api.Node{Slots: []int{255}}, true}, {api.Node{Slots: []int{256}}, false}, {api.Node{Slots: []int{0}}, false}, {api.Node{Slots: []int{-1}}, false},
		{api.Node{Slots: []int{1, 0, 2}}, false}, {api.Node{Slots: []int{0, 1}}, false}, {api.Node{Slots: []int{1, 0}}, false}, {api.Node{Slots: []int{9, 9, 9}}, true},
		{api.Node{Level: 10, Turn: -1, Next: 256, Low: -1, Slots: []int{0}}, false},
		{api.Node{Level: -16, Turn: 1}, false}, {api.Node{Level: 16, Turn: -1}, false}, {api.Node{Level: -1, Turn: 1, Next: -1, Low: 256, Slots: []int{-1}}, false},
	} {
		if node.Check(c.n) != c.ok || mayBe(c.n) != c.ok {
			t.Errorf("row %d: %v", i, node.Check(c.n))
		}
		words(t, c.n, c.ok)
	}
}

// P9.1: no slots, one, as many as may be, and more; and each with a slot of 0, or one that may not be, in each place.
func TestHowManySlots(t *testing.T) {
	for _, n := range []int{0, 1, 2, 12, 13, 14, 15, 16, 17, 29, 256, 5000} {
		full := api.Node{Level: 1, Slots: slices.Repeat([]int{8}, n)}
		words(t, full, n <= 13)
		for at := range min(n, 20) {
			for _, x := range []int{0, -1, 256} {
				wrong := full
				wrong.Slots = slices.Clone(full.Slots)
				wrong.Slots[at] = x
				words(t, wrong, false)
			}
		}
	}
	words(t, api.Node{Slots: make([]int, 1)}, false)
	words(t, api.Node{Slots: make([]int, 14)}, false)
	words(t, api.Node{Slots: append(filled(13), 0)}, false)
}

// P9.1: nodes' words, written out.
func TestWritten(t *testing.T) {
	for i, c := range []struct {
		n     api.Node
		words []int
	}{
		{api.Node{}, []int{1152921504606846976, 0, 0, 0, 0, 0, 0, 0, 0, 0, 0, 0, 0, 0, 0, 0}},
		{api.Node{Turn: 1, Next: 5}, []int{1152921504606846992, 5, 0, 0, 0, 0, 0, 0, 0, 0, 0, 0, 0, 0, 0, 0}},
		{api.Node{Level: 2, Turn: 3, Next: 4, Low: 5, Slots: []int{6}}, []int{1152921504606847026, 4, 5, 6, 0, 0, 0, 0, 0, 0, 0, 0, 0, 0, 0, 0}},
		{api.Node{Level: 9, Turn: 1 << 40, Next: 255, Low: 254, Slots: []int{1, 2, 3, 4, 5, 6, 7, 8, 9, 10, 11, 12, 13}}, []int{1152939096792891401, 255, 254, 1, 2, 3, 4, 5, 6, 7, 8, 9, 10, 11, 12, 13}},
		{api.Node{Low: 1, Slots: []int{255, 1, 1, 255, 9, 9}}, []int{1152921504606846976, 0, 1, 255, 1, 1, 255, 9, 9, 0, 0, 0, 0, 0, 0, 0}},
	} {
		l, e := node.Words(c.n)
		x, f := node.Read(c.words, 0)
		if !slices.Equal(l, c.words) || e != api.OK || !same(x, c.n) || f != api.OK {
			t.Errorf("row %d: %v, %v, %+v, %v", i, l, e, x, f)
		}
	}
}

// asked is what the document asks of Read: the node whose words a block's are is looked for among all heads and all beginnings of slots.
func asked(words []int, block int) (api.Node, api.Errno) {
	if !slices.Contains(wholeBlocks(words), block) {
		return api.Node{}, api.ErrArg
	}
	own := words[16*block : 16*block+16]
	for level := range 10 {
		for n := range 14 {
			x := api.Node{Level: level, Turn: int(uint64(own[0]-1<<60-level) / 16), Next: own[1], Low: own[2], Slots: own[3 : 3+n]}
			if mayBe(x) && slices.Equal(sentence(x), own) {
				return x, api.OK
			}
		}
	}
	return api.Node{}, api.ErrNode
}

// wholeBlocks are the numbers of those that words have.
func wholeBlocks(words []int) []int {
	var out []int
	for i := 0; i+16 <= len(words); i += 16 {
		out = append(out, i/16)
	}
	return out
}

// reads holds Read against the document, and against what stays as it was; it tells whether there is a node.
func reads(t *testing.T, words []int, block int) bool {
	t.Helper()
	was := slices.Clone(words)
	want, told := asked(words, block)
	n, e := node.Read(words, block)
	if !same(n, want) || e != told {
		t.Fatalf("Read(%v, %d): %+v, %v, not %+v, %v", words, block, n, e, want, told)
	}
	if !slices.Equal(words, was) {
		t.Fatalf("Read has changed %v to %v", was, words)
	}
	return told == api.OK
}

// P9.1, P9.3: each node, read back from words of one block, of several, and of up to fifteen words more, at each block; the others hold what is no node.
func TestReadBack(t *testing.T) {
	for _, n := range some() {
		l, _ := node.Words(n)
		for _, count := range []int{1, 2, 3, 7} {
			for more := range 16 {
				for block := range count {
					words := slices.Repeat([]int{-3}, 16*count+more)
					copy(words[16*block:], l)
					if x, e := node.Read(words, block); !same(x, n) || e != api.OK {
						t.Fatalf("%+v at %d of %d and %d: %+v, %v", n, block, count, more, x, e)
					}
					if count > 1 {
						if x, e := node.Read(words, (block+1)%count); !same(x, api.Node{}) || e != api.ErrNode {
							t.Fatalf("at %d of %d and %d: %+v, %v", block, count, more, x, e)
						}
					}
				}
			}
		}
	}
}

// P9.1: a node in each block of as many as there may be, and of more: what may be read hangs on the words alone.
func TestReadFar(t *testing.T) {
	var words []int
	for b := range 300 {
		words = append(words, sentence(api.Node{Level: b % 10, Turn: b, Next: b % 256, Slots: []int{b%255 + 1}})...)
	}
	for b := range 300 {
		if x, e := node.Read(words, b); x.Turn != b || x.Level != b%10 || x.Next != b%256 || !slices.Equal(x.Slots, []int{b%255 + 1}) || e != api.OK {
			t.Fatalf("%d: %+v, %v", b, x, e)
		}
	}
	if x, e := node.Read(words, 300); !same(x, api.Node{}) || e != api.ErrArg {
		t.Errorf("%+v, %v", x, e)
	}
}

// P9.1: a block below 0, just behind the last whole one, and far off, of no words, of fewer than sixteen, and of others; ErrArg is told ahead of what the words are.
func TestReadNoBlock(t *testing.T) {
	far := append(slices.Clone(blocks), math.MinInt/16, math.MinInt/16-1, math.MaxInt/16, math.MaxInt/16+1, 1<<59, 1<<59+1, 3, 4, 5)
	for size := range 70 {
		for _, words := range [][]int{make([]int, size), slices.Repeat(sentence(ordinary()), 5)[:size]} {
			for _, block := range append(far, size/16-1, size/16, size/16+1, -size/16) {
				ok := in(block, 0, size/16-1)
				x, e := node.Read(words, block)
				if !ok && (!same(x, api.Node{}) || e != api.ErrArg) || ok && e == api.ErrArg {
					t.Fatalf("block %d of %d words: %+v, %v", block, size, x, e)
				}
				reads(t, words, block)
			}
		}
	}
	for _, block := range []int{-1, 0, 1} {
		if x, e := node.Read(nil, block); !same(x, api.Node{}) || e != api.ErrArg {
			t.Errorf("%d: %+v, %v", block, x, e)
		}
	}
}

// P9.1: first words that are no node's: below 2^60, above all that may be, below 0, of too great a Level, of too great a Turn.
func TestFirstWord(t *testing.T) {
	const mark, last = 1 << 60, 1<<60 + 16<<40
	for i, c := range []struct {
		head int
		ok   bool
	}{
		{mark, true}, {mark + 9, true}, {mark + 10, false}, {mark + 11, false}, {mark + 15, false}, {mark + 16, true}, {mark + 25, true}, {mark + 26, false},
		{mark - 1, false}, {mark - 7, false}, {mark - 16, false}, {0, false}, {1, false}, {16, false}, {-1, false}, {-16, false}, {-mark, false}, {16 - mark, false},
		{last, true}, {last + 9, true}, {last - 7, true}, {last - 6, false}, {last - 16, true}, {last + 10, false}, {last + 15, false}, {last + 16, false}, {last + 32, false},
		{mark + 1<<45, false}, {mark + 1<<59, false}, {mark * 2, false}, {mark*2 + 16, false}, {mark * 3, false}, {mark*7 + 15, false}, {mark * 4, false},
		{math.MaxInt, false}, {math.MinInt, false}, {math.MinInt + 9, false}, {math.MinInt + mark, false}, {math.MinInt + mark - 1, false}, {math.MinInt + mark - 16, false}, {math.MaxInt - 15, false},
		{1<<60 ^ math.MinInt, false}, {1<<61 | 1<<60, false}, {1<<62 | 1<<60, false},
	} {
		w := sentence(ordinary())
		w[0] = c.head
		if reads(t, w, 0) != c.ok {
			t.Errorf("row %d: %d", i, c.head)
		}
	}
	for _, n := range some() {
		for bit := range 64 {
			w := sentence(n)
			w[0] ^= 1 << bit
			if ok := reads(t, w, 0); ok && bit >= 45 {
				t.Errorf("%+v: bit %d", n, bit)
			}
		}
	}
}

// P9.1: words in which a Next, a Low or a slot is one that may not be, and all else is right.
func TestOtherWords(t *testing.T) {
	for _, n := range some() {
		for at := 1; at < 16; at++ {
			for _, x := range blocks {
				w := sentence(n)
				w[at] = x
				ok := in(x, 0, 255)
				if at > 2 {
					behind := at - 3 - len(n.Slots)
					ok = behind < 0 && (in(x, 1, 255) || x == 0 && at-2 == len(n.Slots)) || behind == 0 && in(x, 0, 255) || behind > 0 && x == 0
				}
				if reads(t, w, 0) != ok {
					t.Fatalf("%+v: word %d is %d", n, at, x)
				}
			}
		}
	}
}

// P9.1: one slot, or several, behind one that is 0, at all places.
func TestBehindEmpty(t *testing.T) {
	for _, x := range []int{1, 2, 255, 256, -1, 1 << 60} {
		for empty := range 13 {
			for at := empty + 1; at < 13; at++ {
				w := sentence(api.Node{Level: 1, Turn: 2, Next: 3, Low: 4, Slots: filled(13)})
				for i := empty; i < 13; i++ {
					w[3+i] = 0
				}
				if !reads(t, w, 0) {
					t.Fatalf("%v", w)
				}
				w[3+at] = x
				if reads(t, w, 0) {
					t.Fatalf("%v", w)
				}
				for i := at; i < 13; i++ {
					w[3+i] = x
				}
				if reads(t, w, 0) {
					t.Fatalf("%v", w)
				}
			}
		}
	}
}

// P9.3: nodes with one part another number that may be are read as they were laid.
func TestThereAndBack(t *testing.T) {
	others(func(n api.Node, ok bool) {
		l, e := node.Words(n)
		if !ok {
			return
		}
		if x, f := node.Read(l, 0); !same(x, n) || e != api.OK || f != api.OK {
			t.Fatalf("%+v: %v, %v, %+v, %v", n, l, e, x, f)
		}
	})
}

// turned is the document's sentence on Turn.
func turned(block int, n api.Node, down bool) []api.Micro {
	if !in(block, 0, 255) || !mayBe(n) || (n.Turn%2 == 1) == down {
		return nil
	}
	one := n.Turn + 1
	if n.Turn == 1099511627776 {
		one = 1
	}
	return []api.Micro{{Kind: 1, At: 16 * block, Val: 1152921504606846976 + 16*one + n.Level}}
}

// P9.2: Turn of nodes that may be and may not, at blocks just inside, just outside and far off.
func TestTurn(t *testing.T) {
	steps := 0
	ask := func(block int, n api.Node) {
		for _, down := range []bool{true, false} {
			s, want := node.Turn(block, n, down), turned(block, n, down)
			if !slices.Equal(s, want) {
				t.Fatalf("Turn(%d, %+v, %v): %v, not %v", block, n, down, s, want)
			}
			steps += len(s)
		}
	}
	others(func(n api.Node, ok bool) {
		for _, block := range []int{0, 1, 3, 255, -1, 256} {
			ask(block, n)
		}
	})
	for _, n := range some() {
		for _, block := range blocks {
			ask(block, n)
		}
		for block := range 260 {
			ask(block, n)
		}
	}
	if steps < 1000 {
		t.Error(steps)
	}
}

// P9.2: the very step of Turn, written out.
func TestTurnWritten(t *testing.T) {
	const mark, last = 1152921504606846976, 1099511627776
	for i, c := range []struct {
		block int
		n     api.Node
		down  bool
		want  []api.Micro
	}{
		{0, api.Node{}, true, []api.Micro{{Kind: 1, At: 0, Val: mark + 16}}},
		{0, api.Node{}, false, nil},
		{3, api.Node{Level: 2, Turn: 1}, false, []api.Micro{{Kind: 1, At: 48, Val: mark + 34}}},
		{3, api.Node{Level: 2, Turn: 1}, true, nil},
		{255, api.Node{Level: 9, Turn: 6, Next: 1, Low: 2, Slots: []int{3}}, true, []api.Micro{{Kind: 1, At: 4080, Val: mark + 121}}},
		{255, api.Node{Level: 9, Turn: 6, Next: 1, Low: 2, Slots: []int{3}}, false, nil},
		{255, api.Node{Level: 9, Turn: 7}, false, []api.Micro{{Kind: 1, At: 4080, Val: mark + 137}}},
		{7, api.Node{Turn: last - 1}, false, []api.Micro{{Kind: 1, At: 112, Val: mark + 16*last}}},
		{7, api.Node{Turn: last - 1}, true, nil},
		{7, api.Node{Turn: last - 2}, true, []api.Micro{{Kind: 1, At: 112, Val: mark + 16*last - 16}}},
		{7, api.Node{Turn: last}, true, []api.Micro{{Kind: 1, At: 112, Val: mark + 16}}},
		{7, api.Node{Level: 5, Turn: last}, true, []api.Micro{{Kind: 1, At: 112, Val: mark + 21}}},
		{7, api.Node{Turn: last}, false, nil},
		{7, api.Node{Turn: last + 1}, false, nil}, {7, api.Node{Turn: last + 1}, true, nil},
		{7, api.Node{Turn: -1}, false, nil}, {7, api.Node{Turn: -1}, true, nil}, {7, api.Node{Turn: -2}, true, nil},
		{-1, api.Node{}, true, nil}, {256, api.Node{}, true, nil}, {math.MinInt, api.Node{}, true, nil}, {math.MaxInt, api.Node{}, true, nil}, {1 << 60, api.Node{}, true, nil},
		{7, api.Node{Level: 10}, true, nil}, {7, api.Node{Next: 256}, true, nil}, {7, api.Node{Low: -1}, true, nil}, {7, api.Node{Slots: []int{1, 0}}, true, nil}, {7, api.Node{Slots: make([]int, 14)}, true, nil},
	} {
		if s := node.Turn(c.block, c.n, c.down); !slices.Equal(s, c.want) {
			t.Errorf("row %d: %v", i, s)
		}
	}
}

// P9.2: the very steps of Next, at all blocks and next ones that may be, and at the edges of both.
func TestNext(t *testing.T) {
	numbers := slices.Clone(blocks)
	for n := range 260 {
		numbers = append(numbers, n)
	}
	for _, block := range numbers {
		for _, next := range numbers {
			s, e := node.Next(block, next)
			if !in(block, 0, 255) || !in(next, 0, 255) {
				if len(s) != 0 || e != api.ErrArg {
					t.Fatalf("Next(%d, %d): %v, %v", block, next, s, e)
				}
				continue
			}
			if !slices.Equal(s, []api.Micro{{Kind: 1, At: 16*block + 1, Val: next}, {Kind: 2, At: 2 * block, Val: 0}}) || e != api.OK {
				t.Fatalf("Next(%d, %d): %v, %v", block, next, s, e)
			}
		}
	}
}

// P9.2: Next, written out.
func TestNextWritten(t *testing.T) {
	for i, c := range []struct {
		block, next int
		want        []api.Micro
		told        api.Errno
	}{
		{0, 0, []api.Micro{{Kind: 1, At: 1, Val: 0}, {Kind: 2, At: 0, Val: 0}}, api.OK},
		{0, 255, []api.Micro{{Kind: 1, At: 1, Val: 255}, {Kind: 2, At: 0, Val: 0}}, api.OK},
		{1, 1, []api.Micro{{Kind: 1, At: 17, Val: 1}, {Kind: 2, At: 2, Val: 0}}, api.OK},
		{255, 0, []api.Micro{{Kind: 1, At: 4081, Val: 0}, {Kind: 2, At: 510, Val: 0}}, api.OK},
		{255, 255, []api.Micro{{Kind: 1, At: 4081, Val: 255}, {Kind: 2, At: 510, Val: 0}}, api.OK},
		{256, 0, nil, api.ErrArg}, {0, 256, nil, api.ErrArg}, {-1, 0, nil, api.ErrArg}, {0, -1, nil, api.ErrArg}, {256, 256, nil, api.ErrArg}, {-1, -1, nil, api.ErrArg},
		{math.MaxInt, 0, nil, api.ErrArg}, {0, math.MaxInt, nil, api.ErrArg}, {math.MinInt, 0, nil, api.ErrArg}, {0, math.MinInt, nil, api.ErrArg},
	} {
		if s, e := node.Next(c.block, c.next); !slices.Equal(s, c.want) || e != c.told {
			t.Errorf("row %d: %v, %v", i, s, e)
		}
	}
}

// laid is a memory of so many blocks, with a node in one of them, and other words around it.
func laid(t *testing.T, count, block int, n api.Node) api.Mem {
	t.Helper()
	l := make([]int, 16*count)
	for i := range l {
		l[i] = -1 - i
	}
	w, e := node.Words(n)
	copy(l[16*block:], w)
	m, f := pmem.New(l)
	if e != api.OK || f != api.OK {
		t.Fatalf("%+v: %v, %v", n, e, f)
	}
	return m
}

// keeps are what a crash may keep of the lines of a block, from nothing to more than was stored.
func keeps(block int) [][]int {
	out := [][]int{nil, {-1}}
	for first := range 4 {
		for second := range 3 {
			out = append(out, append(make([]int, 2*block), first, second))
		}
	}
	return append(out, slices.Repeat([]int{math.MaxInt}, 2*block+3))
}

// goes does steps one by one, and has told each node that is seen, and that a crash may leave; all other words stay.
func goes(t *testing.T, m api.Mem, block int, steps []api.Micro, told func(done int, seen bool, n api.Node)) {
	t.Helper()
	if !micro.Check(steps, len(m.Vol)) {
		t.Fatalf("%v", steps)
	}
	look := func(words []int, done int, seen bool) {
		n, e := node.Read(words, block)
		rest := slices.Clone(words)
		copy(rest[16*block:], m.Vol[16*block:16*block+16])
		if e != api.OK || !slices.Equal(rest, m.Vol) {
			t.Fatalf("%d of %v: %v, %v", done, steps, words, e)
		}
		told(done, seen, n)
	}
	for done := 0; done <= len(steps); done++ {
		now, e := micro.Run(m, steps[:done])
		if e != api.OK {
			t.Fatalf("%d of %v: %v", done, steps, e)
		}
		look(now.Vol, done, true)
		for _, keep := range keeps(block) {
			left, f := micro.Crash(m, steps, done, keep)
			if f != api.OK {
				t.Fatalf("%d of %v: %v", done, steps, f)
			}
			look(left, done, false)
		}
	}
}

// P9.3: a node that is turned is for what it was to be for, and has the same slots, and all else; a crash may keep the old Turn.
func TestTurned(t *testing.T) {
	for _, n := range some() {
		for _, block := range []int{0, 1, 4} {
			for _, down := range []bool{true, false} {
				steps := node.Turn(block, n, down)
				if was := n.Turn%2 == 1; (was == down) != (len(steps) == 0) {
					t.Fatalf("%+v, %v: %v", n, down, steps)
				}
				kept := map[int]bool{}
				goes(t, laid(t, 5, block, n), block, steps, func(done int, seen bool, x api.Node) {
					as := n
					as.Turn = x.Turn
					if !same(x, as) {
						t.Fatalf("%+v, %v: %+v", n, down, x)
					}
					if seen && done == len(steps) && (x.Turn%2 == 1) != down {
						t.Fatalf("%+v, %v: %+v is seen", n, down, x)
					}
					if x.Turn != n.Turn && (done == 0 || (x.Turn%2 == 1) != down) {
						t.Fatalf("%+v, %v: %+v behind %d", n, down, x, done)
					}
					if !seen {
						kept[x.Turn] = true
					}
				})
				if len(kept) != 1+len(steps) {
					t.Fatalf("%+v, %v: %v are kept", n, down, kept)
				}
			}
		}
	}
}

// P9.3: wherever the steps of Next end, the next one is the old one, or the new one, and all else is as it was; behind all of them it is the new one.
func TestNexts(t *testing.T) {
	for _, n := range some() {
		for _, block := range []int{0, 1, 4} {
			for _, next := range []int{0, 1, 254, 255, n.Next} {
				steps, e := node.Next(block, next)
				if e != api.OK {
					t.Fatal(e)
				}
				kept := [3]map[int]bool{{}, {}, {}}
				goes(t, laid(t, 5, block, n), block, steps, func(done int, seen bool, x api.Node) {
					as := n
					as.Next = x.Next
					if !same(x, as) {
						t.Fatalf("%+v, %d: %+v", n, next, x)
					}
					if want := []int{n.Next, next, next}[done]; seen && x.Next != want {
						t.Fatalf("%+v, %d: %+v is seen behind %d", n, next, x, done)
					}
					if !seen {
						kept[done][x.Next] = true
					}
				})
				if !kept[0][n.Next] || len(kept[0]) != 1 || !kept[2][next] || len(kept[2]) != 1 {
					t.Fatalf("%+v, %d: %v", n, next, kept)
				}
				if !kept[1][n.Next] || !kept[1][next] || len(kept[1]) > 2 {
					t.Fatalf("%+v, %d: %v", n, next, kept)
				}
			}
		}
	}
}

// P9.3: Turn and Next one behind the other, in both orders: whatever is kept of their line is a node with the same slots.
func TestBothInRow(t *testing.T) {
	for _, n := range some() {
		for _, next := range []int{0, 9, 255} {
			down := n.Turn%2 == 0
			turn := node.Turn(2, n, down)
			to, _ := node.Next(2, next)
			for _, steps := range [][]api.Micro{slices.Concat(turn, to), slices.Concat(to, turn)} {
				goes(t, laid(t, 3, 2, n), 2, steps, func(done int, seen bool, x api.Node) {
					as := n
					as.Turn, as.Next = x.Turn, x.Next
					if !same(x, as) || x.Next != n.Next && x.Next != next || x.Turn != n.Turn && (x.Turn%2 == 1) != down {
						t.Fatalf("%+v, %d: %+v", n, next, x)
					}
					if done == len(steps) && (x.Next != next || seen && (x.Turn%2 == 1) != down) {
						t.Fatalf("%+v, %d: %+v at the end", n, next, x)
					}
				})
			}
		}
	}
}

// P9.3: a node that is turned again and again, from just ahead of the last Turn on, is for what goes up and down by turns.
func TestTurnsInRow(t *testing.T) {
	n := ordinary()
	n.Turn = 1<<40 - 4
	m := laid(t, 2, 1, n)
	want := []int{1<<40 - 3, 1<<40 - 2, 1<<40 - 1, 1 << 40, 1, 2, 3, 4, 5, 6}
	for i, turn := range want {
		now, _ := node.Read(m.Vol, 1)
		m, _ = micro.Run(m, node.Turn(1, now, i%2 == 0))
		x, e := node.Read(m.Vol, 1)
		as := n
		as.Turn = turn
		if !same(x, as) || e != api.OK {
			t.Fatalf("%d: %+v, %v", i, x, e)
		}
	}
}

// withRoom is l with spare room behind it, and whether both are as they were.
func withRoom(l []int) ([]int, func() bool) {
	room := append(slices.Clone(l), 77, 0, 78, -79, 80, 81, 82, 83, 84, 85, 86, 87, 88, 89, 90, 91)
	was := slices.Clone(room)
	return room[:len(l)], func() bool { return slices.Equal(room, was) }
}

// spoil writes over a list and its spare room.
func spoil[T any](l []T, with T) {
	l = l[:cap(l)]
	for i := range l {
		l[i] = with
	}
}

// R4: what is handed in stays as it was, its spare room too, and nothing hangs on that room, nor shares memory with what is answered.
func TestHandedIn(t *testing.T) {
	for _, n := range append(some(), api.Node{Slots: make([]int, 14)}, api.Node{Slots: []int{1, 0}}, api.Node{Turn: -1, Slots: []int{1, 2}}) {
		l, stays := withRoom(n.Slots)
		x := n
		x.Slots = l
		ok := mayBe(n)
		w, e := node.Words(x)
		if node.Check(x) != ok || (e == api.OK) != ok {
			t.Fatalf("%+v: %v", n, e)
		}
		for _, down := range []bool{true, false} {
			s := node.Turn(2, x, down)
			if !slices.Equal(s, turned(2, n, down)) {
				t.Fatalf("%+v: %v", n, s)
			}
			spoil(s, api.Micro{Kind: 9, At: 9, Val: 9})
		}
		spoil(w, -5)
		if !stays() || !same(x, n) {
			t.Fatalf("%+v: %v", n, l)
		}
		if again, _ := node.Words(x); ok && !slices.Equal(again, sentence(n)) {
			t.Fatalf("%+v: %v", n, again)
		}
	}
}

// R4: the same of Read, whose answer is its own memory; words that end just behind a block, and within one.
func TestReadShares(t *testing.T) {
	for _, n := range some() {
		for _, more := range []int{0, 1, 15, 16} {
			words, stays := withRoom(append(sentence(n), make([]int, more)...))
			for block := range 3 {
				x, e := node.Read(words, block)
				if (e == api.ErrArg) != (block >= len(words)/16) {
					t.Fatalf("%d of %d: %v", block, len(words), e)
				}
				spoil(x.Slots, -5)
			}
			x, _ := node.Read(words, 0)
			if !stays() || !same(x, n) {
				t.Fatalf("%+v: %+v, %v", n, x, words)
			}
			words[3] = 111
			if !same(x, n) {
				t.Fatalf("%+v: %+v", n, x)
			}
		}
	}
	s, _ := node.Next(1, 2)
	spoil(s, api.Micro{Kind: 9, At: 9, Val: 9})
	if again, e := node.Next(1, 2); !slices.Equal(again, []api.Micro{{Kind: 1, At: 17, Val: 2}, {Kind: 2, At: 2}}) || e != api.OK {
		t.Errorf("%v, %v", again, e)
	}
}
