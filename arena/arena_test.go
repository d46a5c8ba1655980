package arena_test

import (
	"math"
	"slices"
	"strconv"
	"strings"
	"testing"

	"lamplighter/api"
	"lamplighter/arena"
	"lamplighter/node"
	"lamplighter/rec"
	"lamplighter/sum"
	"lamplighter/super"
)

// lay lays a record, or a node, into a block of words.
func lay(w []int, block int, what any) {
	var l []int
	e := api.ErrArg
	switch x := what.(type) {
	case api.Rec:
		l, e = rec.Words(x)
	case api.Node:
		l, e = node.Words(x)
	}
	if e != api.OK || len(w) < 16*block+16 {
		panic("what is to be laid may not be: " + strconv.Itoa(block))
	}
	copy(w[16*block:], l)
}

// pair is a record of a pair, from one that leads to a node.
func pair(key string) api.Rec            { return api.Rec{Kind: api.RPair, Key: key, Val: "v"} }
func from(key string, child int) api.Rec { return api.Rec{Kind: api.RNode, Key: key, Child: child} }

// laid is what is laid into a block, or, of a number, what is stored at a word.
type laid struct {
	at   int
	what any
}

// built is an arena of so many blocks, with what is laid into it, one behind the other.
func built(blocks, root int, l ...laid) []int {
	w := slices.Concat([]int{7015, blocks, sum.Of([]int{7015, blocks}), root}, make([]int, 16*blocks-4))
	for _, x := range l {
		if val, ok := x.what.(int); ok {
			w[x.at] = val
		} else {
			lay(w, x.at, x.what)
		}
	}
	return w
}

// base is an arena of three leaves (1, 9, 10), two nodes above these (11, 15), one above those (17), which is the root, and blocks that are not reached (12, 20 to 23).
func base() []laid {
	return []laid{
		{1, api.Node{Next: 9, Slots: []int{2, 3}}}, {2, pair("b")}, {3, pair("f")},
		{9, api.Node{Turn: 3, Next: 10, Low: 4, Slots: []int{4, 5}}}, {4, pair("m")}, {5, pair("p")},
		{10, api.Node{Turn: 2, Low: 7, Slots: []int{6, 8}}}, {7, from("t", 10)}, {6, pair("t")}, {8, pair("x")},
		{11, api.Node{Level: 1, Next: 15, Slots: []int{13, 14}}}, {13, from("", 1)}, {14, from("m", 9)},
		{15, api.Node{Level: 1, Turn: 1, Low: 16, Slots: []int{16}}}, {16, from("t", 10)},
		{17, api.Node{Level: 2, Slots: []int{18, 19}}}, {18, from("", 11)}, {19, from("t", 15)},
		{20, pair("z")}, {21, api.Node{Level: 1, Slots: []int{13}}}, {22, api.Node{Slots: []int{20}}},
	}
}

// with is the base with some of it laid otherwise.
func with(l ...laid) []int { return built(24, 17, append(base(), l...)...) }

// upTo are the numbers from 0 to n, but for some.
func upTo(n int, but ...int) []int {
	var out []int
	for x := range n + 1 {
		if !slices.Contains(but, x) {
			out = append(out, x)
		}
	}
	return out
}

// chain is an arena of so many leaves, of which each but the first one has a key, in blocks that fall; above the first one stands a node of each level, one over the other, as far as there is room.
func chain(blocks, leaves int) []int {
	var l []laid
	block := func(i int) int { return (leaves-i)%leaves + 1 }
	for i := range leaves {
		n := api.Node{}
		if i > 0 {
			n.Low = leaves + i
			n.Slots = []int{n.Low}
			l = append(l, laid{n.Low, pair("k" + strconv.Itoa(1000+i))})
		}
		if i < leaves-1 {
			n.Next = block(i + 1)
		}
		l = append(l, laid{block(i), n})
	}
	root := 1
	for level, next := 1, 2*leaves; level <= 9 && next+1 < blocks; level, next = level+1, next+2 {
		l = append(l, laid{next, from("", root)}, laid{next + 1, api.Node{Level: level, Slots: []int{next}}})
		root = next + 1
	}
	return built(blocks, root, l...)
}

// full is an arena whose only leaf has as many slots as there can be, the last one twice.
func full() []int {
	n := api.Node{Turn: api.MaxTurn}
	var l []laid
	for i := range 12 {
		n.Slots = append(n.Slots, 14-i)
		l = append(l, laid{14 - i, api.Rec{Kind: api.RPair, Key: strings.Repeat("\xff", i+1)}})
	}
	n.Slots = append(n.Slots, 3)
	return built(15, 1, append(l, laid{1, n})...)
}

// made are sound arenas of many kinds.
func made() [][]int {
	out := [][]int{with(), full(), chain(256, 128), chain(256, 100), chain(40, 3), chain(23, 2), chain(5, 2)}
	for _, blocks := range []int{2, 3, 4, 12, 255, 256} {
		w, _ := arena.New(blocks)
		out = append(out, w)
	}
	for _, root := range []int{1, 9, 11, 13, 15, 21, 23} {
		out = append(out, with(laid{3, root}))
	}
	return append(out,
		with(laid{9, api.Node{Next: 10, Low: 4}}, laid{1, api.Node{Next: 9}}),
		with(laid{11, api.Node{Level: 1, Next: 11, Low: 15, Slots: []int{15, 13, 200, 22}}}),
		with(laid{15, api.Node{Level: 1, Next: 11, Low: 255, Slots: []int{17, 18, 13}}}, laid{18, from("", 15)}),
	)
}

// isNode is the node of a block, and whether there is one.
func isNode(w []int, block int) (api.Node, bool) {
	n, e := node.Read(w, block)
	return n, e == api.OK
}

// wantLow is the document's sentence on from which key on a node is.
func wantLow(w []int, block int) (string, bool) {
	n, ok := isNode(w, block)
	if !ok || n.Low == 0 {
		return "", ok
	}
	x, e := rec.Read(w, n.Low)
	return x.Key, e == api.OK
}

// wantLeaves is the document's sentence on Leaves: a way of more leaves than blocks has one twice.
func wantLeaves(w []int) ([]int, bool) {
	if _, _, e := super.Read(w); e != api.OK {
		return nil, false
	}
	out := []int{1}
	for {
		n, ok := isNode(w, out[len(out)-1])
		if !ok || n.Level != 0 || len(out) > len(w)/16 {
			return nil, false
		}
		if n.Next == 0 {
			return out, true
		}
		out = append(out, n.Next)
	}
}

// wantSlots is the document's sentence on a leaf's Slots, and its keys, which are not ahead of low.
func wantSlots(w []int, l []int, low string) bool {
	var keys []string
	for i, slot := range l {
		x, e := rec.Read(w, slot)
		if e != api.OK || x.Kind != 1 {
			return false
		}
		if i == 0 || l[i-1] != slot {
			keys = append(keys, x.Key)
		}
	}
	for i, key := range keys {
		if strings.Compare(key, low) < 0 || i > 0 && strings.Compare(keys[i-1], key) >= 0 {
			return false
		}
	}
	return true
}

// wantSound is the document's sentence on sound arenas.
func wantSound(w []int) bool {
	leaves, ok := wantLeaves(w)
	if !ok {
		return false
	}
	for i, block := range leaves {
		n, _ := isNode(w, block)
		low, ok := wantLow(w, block)
		if !ok || !wantSlots(w, n.Slots, low) {
			return false
		}
		if i == 0 && n.Low != 0 || i > 0 && low == "" {
			return false
		}
		if i > 0 {
			if ahead, _ := wantLow(w, leaves[i-1]); strings.Compare(ahead, low) >= 0 {
				return false
			}
		}
	}
	return true
}

// wantThrough are the nodes above the leaves that are gone through: all that the root, or one of these, leads to, till there is no other.
func wantThrough(w []int) []int {
	_, root, _ := super.Read(w)
	var out []int
	if n, ok := isNode(w, root); ok && n.Level != 0 {
		out = append(out, root)
	}
	for more := true; more; {
		more = false
		for b := range len(w) / 16 {
			if n, ok := isNode(w, b); ok && n.Level != 0 && !slices.Contains(out, b) && slices.ContainsFunc(out, func(up int) bool { return leads(w, up, b, n.Level) }) {
				out, more = append(out, b), true
			}
		}
	}
	return out
}

// leads tells whether a node is the one ahead of that of a block, or has a record that leads there.
func leads(w []int, up, block, level int) bool {
	n, _ := isNode(w, up)
	return n.Level == level && n.Next == block || n.Level == level+1 && slices.ContainsFunc(n.Slots, func(slot int) bool {
		x, e := rec.Read(w, slot)
		return e == api.OK && x.Kind == 2 && x.Child == block
	})
}

// wantReach is the document's sentence on what is reached.
func wantReach(w []int) ([]int, bool) {
	if !wantSound(w) {
		return nil, false
	}
	leaves, _ := wantLeaves(w)
	all := []int{0}
	for _, b := range slices.Concat(leaves, wantThrough(w)) {
		n, _ := isNode(w, b)
		all = append(append(all, b, n.Low), n.Slots...)
	}
	return slices.DeleteFunc(upTo(len(w)/16-1), func(b int) bool { return !slices.Contains(all, b) }), true
}

// errno is what is told of an arena.
func errno(ok bool) api.Errno {
	if ok {
		return api.OK
	}
	return api.ErrCorrupt
}

// looks holds all that is told of words against the document's sentences, and tells whether they are sound.
func looks(t *testing.T, w []int, what ...any) bool {
	t.Helper()
	want, ok := wantLeaves(w)
	if l, e := arena.Leaves(w); !slices.Equal(l, want) || e != errno(ok) {
		t.Fatalf("%v: Leaves: %v, %v, not %v, %v", what, l, e, want, errno(ok))
	}
	sound := wantSound(w)
	if e := arena.Check(w); e != errno(sound) {
		t.Fatalf("%v: Check: %v, not %v", what, e, errno(sound))
	}
	want, ok = wantReach(w)
	if l, e := arena.Reach(w); !slices.Equal(l, want) || e != errno(ok) {
		t.Fatalf("%v: Reach: %v, %v, not %v, %v", what, l, e, want, errno(ok))
	}
	return sound
}

// lows holds Low of all blocks, and of some that are none, against the document's sentence.
func lows(t *testing.T, w []int, what ...any) {
	t.Helper()
	for block := -2; block < len(w)/16+3; block++ {
		lowIs(t, w, block, what...)
	}
	for _, block := range []int{math.MinInt, math.MinInt + 1, math.MinInt / 16, -1 << 60, -1 << 32, -256, -16, 255, 256, 257, 1 << 28, 1 << 32, 1<<32 + 1, 1 << 60, 1<<60 + 1, math.MaxInt/16 + 1, math.MaxInt} {
		lowIs(t, w, block, what...)
	}
}

func lowIs(t *testing.T, w []int, block int, what ...any) {
	t.Helper()
	want, ok := wantLow(w, block)
	if !ok {
		want = ""
	}
	if s, e := arena.Low(w, block); s != want || e != errno(ok) {
		t.Fatalf("%v: Low of %d: %q, %v, not %q, %v", what, block, s, e, want, errno(ok))
	}
}

// P11.1: all words of each number of blocks that may be.
func TestNew(t *testing.T) {
	for blocks := 2; blocks <= 256; blocks++ {
		want := make([]int, 16*blocks)
		want[0], want[1], want[2], want[3] = 7015, blocks, sum.Of([]int{7015, blocks}), 1
		want[16] = 1 << 60
		w, e := arena.New(blocks)
		if !slices.Equal(w, want) || e != api.OK {
			t.Fatalf("%d: %v, %v", blocks, w, e)
		}
		if l, e := arena.Leaves(w); !slices.Equal(l, []int{1}) || e != api.OK {
			t.Fatalf("%d: Leaves: %v, %v", blocks, l, e)
		}
		if l, e := arena.Reach(w); !slices.Equal(l, []int{0, 1}) || e != api.OK {
			t.Fatalf("%d: Reach: %v, %v", blocks, l, e)
		}
		if s, e := arena.Low(w, 1); s != "" || e != api.OK || arena.Check(w) != api.OK {
			t.Fatalf("%d: Low: %q, %v; %v", blocks, s, e, arena.Check(w))
		}
	}
}

// P11.1: numbers of blocks that may not be.
func TestNewWrong(t *testing.T) {
	for _, blocks := range []int{0, 1, 257, 258, 300, 511, 512, 4096, -1, -2, -16, -255, -256, 1 << 28, 1 << 32, 1<<32 + 2, 1<<60 + 2, -1 << 32, 2 - 1<<32, math.MaxInt / 16, math.MaxInt, math.MinInt, math.MinInt + 2} {
		if w, e := arena.New(blocks); len(w) != 0 || e != api.ErrArg {
			t.Errorf("%d: %d words, %v", blocks, len(w), e)
		}
	}
}

// P11.2: words that are no arena's: none, too few, not whole blocks, other blocks than are told, and no first block.
func TestNoArena(t *testing.T) {
	w, _ := arena.New(4)
	base := with()
	for i, l := range [][]int{
		nil, {}, {0}, {7015}, w[:4], w[:15], w[:16], w[:17], w[:31], w[:32], w[:48], w[:63], w[1:], w[16:],
		make([]int, 32), make([]int, 64), append(slices.Clone(w), make([]int, 16)...), append(slices.Clone(w), w...), append(slices.Clone(w), make([]int, 100)...),
		base[:23*16], base[:24*16-1], append(slices.Clone(base), make([]int, 16)...), built(257, 1, laid{1, api.Node{}}), built(300, 1, laid{1, api.Node{}}), built(1<<12, 1, laid{1, api.Node{}}),
		with(laid{0, 0}), with(laid{0, 7014}), with(laid{0, 1}), with(laid{0, 1 << 60}), with(laid{1, 23}), with(laid{1, 25}), with(laid{2, 0}), with(laid{2, base[2] + 1}), with(laid{3, 0}), with(laid{3, 24}), with(laid{3, -1}), with(laid{3, 1<<32 + 17}), with(laid{4, 1}), with(laid{15, -1}), with(laid{0, api.Node{}}), with(laid{0, pair("a")}),
	} {
		if a, e := arena.Leaves(l); len(a) != 0 || e != api.ErrCorrupt {
			t.Errorf("row %d: Leaves: %v, %v", i, a, e)
		}
		if a, e := arena.Reach(l); len(a) != 0 || e != api.ErrCorrupt || arena.Check(l) != api.ErrCorrupt {
			t.Errorf("row %d: Reach: %v, %v; %v", i, a, e, arena.Check(l))
		}
		looks(t, l, "row", i)
		lows(t, l, "row", i)
	}
}

// P11.2: words behind the last whole block are no part of the arena.
func TestPartOfABlock(t *testing.T) {
	for _, w := range made() {
		leaves, _ := arena.Leaves(w)
		reach, _ := arena.Reach(w)
		for n := range 16 {
			l := append(slices.Clone(w), []int{1 << 60, 1, 2, 3, -4, 7015, 1, 1, 1, 1, 1, 1, 1, 1, 1}[:n]...)
			a, e := arena.Leaves(l)
			b, f := arena.Reach(l)
			if !slices.Equal(a, leaves) || e != api.OK || !slices.Equal(b, reach) || f != api.OK || arena.Check(l) != api.OK {
				t.Fatalf("%d more: %v, %v, %v, %v", n, a, e, b, f)
			}
			lowIs(t, l, len(w)/16)
		}
	}
}

// P11.2: leaves, written out: nothing, where they may not be.
func TestLeaves(t *testing.T) {
	for i, c := range []struct {
		l      []laid
		leaves []int
	}{
		{nil, []int{1, 9, 10}},
		{[]laid{{1, api.Node{}}}, []int{1}},
		{[]laid{{1, api.Node{Slots: []int{200, 200}}}}, []int{1}},
		{[]laid{{1, api.Node{Next: 10}}}, []int{1, 10}},
		{[]laid{{1, api.Node{Next: 10}}, {10, api.Node{Next: 9}}, {9, api.Node{}}}, []int{1, 10, 9}},
		{[]laid{{10, api.Node{Next: 22}}}, []int{1, 9, 10, 22}},
		{[]laid{{10, api.Node{Next: 23}}, {23, api.Node{}}}, []int{1, 9, 10, 23}},
		{[]laid{{1, api.Node{Next: 9, Low: 200}}, {9, api.Node{Next: 10, Low: 1}}}, []int{1, 9, 10}},
		{[]laid{{3, 1}}, []int{1, 9, 10}},
		{[]laid{{3, 23}}, []int{1, 9, 10}},
		{[]laid{{10, api.Node{Next: 24}}}, nil},
		{[]laid{{10, api.Node{Next: 255}}}, nil},
		{[]laid{{10, api.Node{Next: 23}}}, nil},
		{[]laid{{10, api.Node{Next: 8}}}, nil},
		{[]laid{{10, api.Node{Next: 11}}}, nil},
		{[]laid{{10, api.Node{Next: 17}}}, nil},
		{[]laid{{1, api.Node{Next: 1}}}, nil},
		{[]laid{{9, api.Node{Next: 9}}}, nil},
		{[]laid{{10, api.Node{Next: 10}}}, nil},
		{[]laid{{10, api.Node{Next: 9}}}, nil},
		{[]laid{{10, api.Node{Next: 1}}}, nil},
		{[]laid{{9, api.Node{Next: 1}}}, nil},
		{[]laid{{1, api.Node{Level: 1, Next: 9}}}, nil},
		{[]laid{{9, api.Node{Level: 9, Next: 10}}}, nil},
		{[]laid{{10, api.Node{Level: 1}}}, nil},
		{[]laid{{1, pair("a")}}, nil},
		{[]laid{{9, from("", 10)}}, nil},
		{[]laid{{16, 0}}, nil},
		{[]laid{{16, 1<<60 - 16}}, nil},
		{[]laid{{17, -9}}, nil},
		{[]laid{{17, 1<<32 + 9}}, nil},
		{[]laid{{17, 256}}, nil},
		{[]laid{{18, 256}}, nil},
		{[]laid{{160 + 15, 4}}, nil},
	} {
		w := with(c.l...)
		l, e := arena.Leaves(w)
		if !slices.Equal(l, c.leaves) || e != errno(len(c.leaves) > 0) {
			t.Errorf("row %d: %v, %v", i, l, e)
		}
		looks(t, w, "row", i)
	}
}

// P11.2: sound arenas, written out, and what is in these.
func TestSound(t *testing.T) {
	for i, l := range [][]laid{
		nil,
		// Leaves that are empty, and some that are alone.
		{{1, api.Node{}}}, {{1, api.Node{Next: 9}}}, {{9, api.Node{Next: 10, Low: 4}}}, {{10, api.Node{Low: 7}}}, {{1, api.Node{Slots: []int{2, 3}}}},
		// The same slot twice, or more often, side by side.
		{{9, api.Node{Next: 10, Low: 4, Slots: []int{4, 4, 5}}}}, {{9, api.Node{Next: 10, Low: 4, Slots: []int{4, 5, 5}}}}, {{9, api.Node{Next: 10, Low: 4, Slots: []int{4, 4, 4, 5, 5, 5, 5}}}}, {{1, api.Node{Next: 9, Slots: slices.Repeat([]int{2}, 13)}}},
		// The first key stands behind that from which on the leaf is.
		{{9, api.Node{Next: 10, Low: 4, Slots: []int{5}}}}, {{4, pair("g")}, {9, api.Node{Next: 10, Low: 4, Slots: []int{5}}}},
		// Keys that are the next one's, and such as stand behind it.
		{{3, pair("m")}}, {{3, pair("n")}}, {{3, pair("z")}}, {{1, api.Node{Next: 9, Slots: []int{2, 3, 4, 5, 6, 8, 20}}}}, {{2, pair("y")}, {3, pair("z")}}, {{9, api.Node{Next: 10, Low: 4, Slots: []int{4, 5, 6, 8}}}}, {{9, api.Node{Next: 10, Low: 4, Slots: []int{8}}}},
		// From which key on leaves are: records of each Kind, and the least distances.
		{{4, from("m", 255)}, {9, api.Node{Next: 10, Low: 4, Slots: []int{5}}}}, {{7, pair("t")}}, {{7, pair("p\x00")}}, {{7, pair("m\x00")}}, {{4, pair("\x00")}}, {{4, pair("a")}}, {{7, from("mm", 1)}},
		// Keys that are beginnings of the next ones, and the longest one.
		{{2, pair("f\x00")}, {3, pair("f\x00\x00")}}, {{2, pair("\x00")}, {3, pair("\xff")}}, {{3, pair(strings.Repeat("\xff", 21))}}, {{2, pair("b")}, {3, pair("b\x00")}},
		// The order of blocks, and what nodes above the leaves, and blocks that are not reached, have.
		{{1, api.Node{Next: 9, Slots: []int{3, 2}}}, {3, pair("b")}, {2, pair("f")}}, {{1, api.Node{Next: 9, Slots: []int{3}}}, {16 * 2, 0}}, {{17, api.Node{Level: 9, Next: 200, Low: 200, Slots: []int{200}}}}, {{17, pair("q")}}, {{16 * 17, -1}}, {{11, pair("q")}}, {{3, 1}}, {{3, 20}}, {{16 * 22, 0}}, {{16*20 + 1, math.MinInt}},
		// A record that two leaves have, each: behind the next one's in the first of them.
		{{1, api.Node{Next: 9, Slots: []int{2, 3, 4}}}}, {{1, api.Node{Next: 9, Slots: []int{4, 5}}}},
	} {
		w := with(l...)
		if e := arena.Check(w); e != api.OK {
			t.Errorf("row %d: %v", i, e)
		}
		if r, e := arena.Reach(w); len(r) < 2 || r[0] != 0 || r[1] != 1 || e != api.OK {
			t.Errorf("row %d: %v, %v", i, r, e)
		}
		looks(t, w, "row", i)
		lows(t, w, "row", i)
	}
}

// P11.2, P11.3: arenas whose leaves are told, and which are not sound, written out.
func TestNotSound(t *testing.T) {
	for i, l := range [][]laid{
		// The first leaf has a Low.
		{{1, api.Node{Next: 9, Low: 2, Slots: []int{2, 3}}}}, {{1, api.Node{Next: 9, Low: 12, Slots: []int{2, 3}}}, {12, from("", 1)}}, {{1, api.Node{Next: 9, Low: 23}}}, {{1, api.Node{Next: 9, Low: 1}}}, {{1, api.Node{Next: 9, Low: 200}}}, {{1, api.Node{Low: 2, Slots: []int{2}}}},
		// Another one has none, or one that is no block, or no record, or whose key is empty.
		{{9, api.Node{Next: 10, Slots: []int{4, 5}}}}, {{10, api.Node{Slots: []int{6, 8}}}}, {{10, api.Node{}}}, {{9, api.Node{Next: 10, Low: 24}}}, {{9, api.Node{Next: 10, Low: 255}}}, {{10, api.Node{Low: 23}}}, {{10, api.Node{Low: 10}}}, {{10, api.Node{Low: 17}}}, {{9, api.Node{Next: 10, Low: 12}}, {12, from("", 9)}}, {{10, api.Node{Low: 13}}}, {{7, from("", 10)}, {10, api.Node{Low: 7}}}, {{16*4 + 8, 1}, {9, api.Node{Next: 10, Low: 4}}},
		// It is from a key on that stands ahead of the other one's, or is the same.
		{{7, pair("l")}}, {{7, pair("a")}}, {{7, pair("m")}}, {{7, from("m", 1)}}, {{10, api.Node{Low: 4, Slots: []int{6, 8}}}}, {{4, pair("t")}, {9, api.Node{Next: 10, Low: 4}}}, {{4, pair("t\x00")}, {9, api.Node{Next: 10, Low: 4}}}, {{4, pair("m\x00")}, {7, pair("m")}, {9, api.Node{Next: 10, Low: 4}}}, {{4, pair("u")}, {9, api.Node{Next: 10, Low: 4}}}, {{4, pair("\xff")}, {9, api.Node{Next: 10, Low: 4}}},
		// Slots that are no blocks, no records, or of the Kind 2.
		{{1, api.Node{Next: 9, Slots: []int{2, 24}}}}, {{1, api.Node{Next: 9, Slots: []int{255}}}}, {{1, api.Node{Next: 9, Slots: []int{2, 23, 3}}}}, {{1, api.Node{Next: 9, Slots: []int{23}}}}, {{1, api.Node{Next: 9, Slots: []int{1}}}}, {{1, api.Node{Next: 9, Slots: []int{9, 2}}}}, {{10, api.Node{Low: 7, Slots: []int{7}}}}, {{1, api.Node{Next: 9, Slots: []int{2, 3, 14}}}}, {{1, api.Node{Next: 9, Slots: []int{13, 2}}}}, {{2, from("b", 1)}}, {{8, from("x", 10)}}, {{8, from("", 10)}}, {{16 * 8, 0}}, {{16*8 + 15, 1}}, {{1, api.Node{Next: 9, Slots: []int{24, 24}}}}, {{1, api.Node{Next: 9, Slots: append(slices.Repeat([]int{2}, 12), 24)}}},
		// Keys that do not rise.
		{{1, api.Node{Next: 9, Slots: []int{3, 2}}}}, {{1, api.Node{Next: 9, Slots: []int{2, 3, 2}}}}, {{1, api.Node{Next: 9, Slots: []int{2, 2, 3, 2, 2}}}}, {{1, api.Node{Next: 9, Slots: []int{2, 20, 3}}}}, {{1, api.Node{Next: 9, Slots: []int{2, 8, 6, 20}}}}, {{9, api.Node{Next: 10, Low: 4, Slots: []int{4, 5, 4}}}}, {{2, pair("f\x00")}}, {{2, pair("\xff")}, {3, pair("\x00")}},
		// The same key twice, in two records.
		{{3, pair("b")}}, {{3, api.Rec{Kind: 1, Key: "b", Val: "other"}}}, {{1, api.Node{Next: 9, Slots: []int{2, 3, 12}}}, {12, pair("f")}}, {{12, pair("m")}, {9, api.Node{Next: 10, Low: 4, Slots: []int{4, 12, 5}}}}, {{12, pair("m")}, {9, api.Node{Next: 10, Low: 4, Slots: []int{12, 4}}}},
		// Keys ahead of that from which on the leaf is.
		{{9, api.Node{Next: 10, Low: 4, Slots: []int{2}}}}, {{9, api.Node{Next: 10, Low: 4, Slots: []int{3, 4, 5}}}}, {{4, pair("m\x00")}, {12, pair("m")}, {9, api.Node{Next: 10, Low: 4, Slots: []int{12, 4}}}}, {{7, pair("t\x00")}}, {{7, pair("x\x00")}}, {{7, from("z", 1)}}, {{10, api.Node{Low: 7, Slots: []int{5, 6}}}}, {{12, pair("\x00")}, {10, api.Node{Low: 7, Slots: []int{12}}}},
	} {
		w := with(l...)
		leaves, e := arena.Leaves(w)
		if !slices.Equal(leaves, []int{1, 9, 10}) && !slices.Equal(leaves, []int{1}) || e != api.OK {
			t.Errorf("row %d: Leaves: %v, %v", i, leaves, e)
		}
		if r, e := arena.Reach(w); arena.Check(w) != api.ErrCorrupt || len(r) != 0 || e != api.ErrCorrupt {
			t.Errorf("row %d: %v, %v, %v", i, arena.Check(w), r, e)
		}
		looks(t, w, "row", i)
		lows(t, w, "row", i)
	}
}

// P11.2: Low, written out.
func TestLow(t *testing.T) {
	lone := slices.Repeat([]int{0}, 48)
	lay(lone, 0, api.Node{Low: 2})
	lay(lone, 2, from("q", 7))
	for i, c := range []struct {
		w     []int
		block int
		key   string
		e     api.Errno
	}{
		{with(), 1, "", api.OK}, {with(), 9, "m", api.OK}, {with(), 10, "t", api.OK}, {with(), 11, "", api.OK}, {with(), 15, "t", api.OK}, {with(), 17, "", api.OK}, {with(), 21, "", api.OK}, {with(), 22, "", api.OK},
		{with(), 0, "", api.ErrCorrupt}, {with(), 2, "", api.ErrCorrupt}, {with(), 13, "", api.ErrCorrupt}, {with(), 23, "", api.ErrCorrupt}, {with(), 24, "", api.ErrCorrupt}, {with(), 255, "", api.ErrCorrupt}, {with(), 256, "", api.ErrCorrupt}, {with(), -1, "", api.ErrCorrupt}, {with(), -9, "", api.ErrCorrupt}, {with(), math.MinInt, "", api.ErrCorrupt}, {with(), math.MaxInt, "", api.ErrCorrupt}, {with(), 1<<32 + 9, "", api.ErrCorrupt}, {with(), 1<<60 + 9, "", api.ErrCorrupt}, {with()[:16*24-1], 23, "", api.ErrCorrupt},
		// A Low of each Kind, one of the empty key, and such as are no records.
		{with(laid{4, from("m", 9)}), 9, "m", api.OK}, {with(laid{4, from("", 9)}), 9, "", api.OK}, {with(laid{4, pair("m\x00\xff")}), 9, "m\x00\xff", api.OK}, {with(laid{4, pair(strings.Repeat("\xff", 21))}), 9, strings.Repeat("\xff", 21), api.OK},
		{with(laid{9, api.Node{Low: 9}}), 9, "", api.ErrCorrupt}, {with(laid{9, api.Node{Low: 23}}), 9, "", api.ErrCorrupt}, {with(laid{9, api.Node{Low: 24}}), 9, "", api.ErrCorrupt}, {with(laid{9, api.Node{Low: 255}}), 9, "", api.ErrCorrupt}, {with(laid{16 * 4, 3}), 9, "", api.ErrCorrupt}, {with(laid{16*4 + 2, 0}), 9, "", api.ErrCorrupt}, {with(laid{16*4 + 9, 1}), 9, "", api.ErrCorrupt}, {with(laid{16*9 + 1, -1}), 9, "", api.ErrCorrupt}, {with(laid{16*9 + 2, 256}), 9, "", api.ErrCorrupt},
		// Of nodes above the leaves too, of each level.
		{with(laid{17, api.Node{Level: 9, Low: 8}}), 17, "x", api.OK}, {with(laid{17, api.Node{Level: 1, Low: 23}}), 17, "", api.ErrCorrupt}, {with(laid{17, api.Node{Level: 5, Turn: 7, Next: 255, Slots: []int{255}}}), 17, "", api.OK},
		// Of arenas that are not sound, and of words that are no arena's.
		{with(laid{0, 0}), 9, "m", api.OK}, {with(laid{3, 0}), 10, "t", api.OK}, {with(laid{16, 0}), 9, "m", api.OK}, {with(laid{16, 0}), 1, "", api.ErrCorrupt}, {with(laid{9, api.Node{Next: 9, Low: 5, Slots: []int{2}}}), 9, "p", api.OK}, {with(laid{1, api.Node{Low: 5}}), 1, "p", api.OK}, {with()[:16*10], 9, "m", api.OK}, {with()[:16*10-1], 9, "", api.ErrCorrupt}, {with()[:16*10], 10, "", api.ErrCorrupt}, {with()[16*9:], 0, "", api.OK}, {with()[16*7:], 2, "", api.ErrCorrupt}, {lone, 0, "q", api.OK}, {lone, 1, "", api.ErrCorrupt}, {lone[:47], 0, "", api.ErrCorrupt}, {nil, 0, "", api.ErrCorrupt}, {nil, 1, "", api.ErrCorrupt},
	} {
		if s, e := arena.Low(c.w, c.block); s != c.key || e != c.e {
			t.Errorf("row %d: %q, %v", i, s, e)
		}
	}
	for _, w := range made() {
		lows(t, w)
	}
}

// P11.3: what is reached, written out.
func TestReach(t *testing.T) {
	low := upTo(10)                                           // what the leaves reach
	all := upTo(19, 12)                                       // what all of the base reach
	none := []laid{{3, 17}}                                   // nothing but what is there
	cut := laid{11, api.Node{Level: 1, Slots: []int{13, 14}}} // no Next leads to 15
	and := func(l []int, more ...int) []int { return slices.Sorted(slices.Values(slices.Concat(l, more))) }
	for i, c := range []struct {
		l     []laid
		reach []int
	}{
		{none, all}, {[]laid{cut}, all},
		// A root that is a leaf, no node, a record, one of a node that nothing else leads to.
		{[]laid{{3, 1}}, low}, {[]laid{{3, 9}}, low}, {[]laid{{3, 22}}, low}, {[]laid{{3, 23}}, low}, {[]laid{{3, 13}}, low}, {[]laid{{3, 2}}, low}, {[]laid{{16 * 17, -1}}, low}, {[]laid{{16*17 + 1, 256}}, low}, {[]laid{{3, 21}}, and(low, 13, 21)},
		// Of one level: a root with a Next, the last one of these, and alone.
		{[]laid{{3, 11}}, and(low, 11, 13, 14, 15, 16)}, {[]laid{{3, 15}}, and(low, 15, 16)}, {[]laid{{3, 11}, cut}, and(low, 11, 13, 14)},
		// A slot that is no record, no block, a leaf, or of the Kind 1: it is reached, if it is a block, and leads nowhere.
		{[]laid{cut, {19, pair("t")}}, upTo(19, 12, 15, 16)}, {[]laid{cut, {16 * 19, 0}}, upTo(19, 12, 15, 16)}, {[]laid{cut, {16*19 + 15, 1}}, upTo(19, 12, 15, 16)}, {[]laid{{17, api.Node{Level: 2, Slots: []int{18, 23}}}}, upTo(23, 12, 19, 20, 21, 22)}, {[]laid{{17, api.Node{Level: 2, Slots: []int{24, 18, 255, 200}}}}, upTo(18, 12)}, {[]laid{{17, api.Node{Level: 2, Slots: []int{1, 9, 18}}}}, upTo(18, 12)}, {[]laid{{17, api.Node{Level: 2, Slots: []int{24, 255}}}}, and(low, 17)}, {[]laid{{17, api.Node{Level: 2}}}, and(low, 17)}, {[]laid{{17, api.Node{Level: 2, Slots: []int{18, 18, 18}}}}, upTo(18, 12)}, {[]laid{{15, api.Node{Level: 1, Slots: []int{20, 20, 23}}}}, upTo(23, 12, 16, 21, 22)},
		// A Child that is no node: none there, a record, no block.
		{[]laid{cut, {19, from("t", 23)}}, upTo(19, 12, 15, 16)}, {[]laid{cut, {19, from("t", 16)}}, upTo(19, 12, 15, 16)}, {[]laid{cut, {19, from("t", 24)}}, upTo(19, 12, 15, 16)}, {[]laid{cut, {19, from("t", 255)}}, upTo(19, 12, 15, 16)},
		// One of a Level that does not fit: the same, one more, two less, a leaf.
		{[]laid{cut, {19, from("t", 17)}}, upTo(19, 12, 15, 16)}, {[]laid{cut, {18, from("", 17)}}, upTo(19, 11, 12, 13, 14)}, {[]laid{cut, {19, from("t", 10)}}, upTo(19, 12, 15, 16)}, {[]laid{cut, {19, from("t", 22)}}, upTo(19, 12, 15, 16)}, {[]laid{{14, from("m", 15)}}, all}, {[]laid{cut, {14, from("m", 21)}}, all}, {[]laid{cut, {14, from("m", 17)}}, all}, {[]laid{cut, {15, api.Node{Level: 2, Low: 20, Slots: []int{16}}}}, upTo(19, 12, 15, 16)}, {[]laid{{17, api.Node{Level: 3, Slots: []int{18, 19}}}}, and(low, 17, 18, 19)}, {[]laid{{17, api.Node{Level: 1, Slots: []int{18, 19}}}}, and(low, 17, 18, 19)},
		// A leaf that is none of the leaves is not gone through, whatever leads to it.
		{[]laid{{14, from("m", 22)}}, all}, {[]laid{{16, from("t", 22)}}, all}, {[]laid{{3, 15}, {15, api.Node{Level: 1, Next: 22, Slots: []int{16}}}}, and(low, 15, 16)},
		// One that was gone through already, or another one than is told.
		{[]laid{{19, from("t", 11)}}, all}, {[]laid{cut, {19, from("t", 11)}}, upTo(19, 12, 15, 16)}, {[]laid{cut, {19, from("t", 21)}}, upTo(21, 12, 15, 16, 20)}, {[]laid{{17, api.Node{Level: 2, Slots: []int{19, 18, 19, 18}}}}, all}, {[]laid{{18, from("", 15)}}, upTo(19, 11, 12, 13, 14)},
		// The Next of nodes above the leaves: itself, one ahead, another one, of another Level, no node, no block.
		{[]laid{{15, api.Node{Level: 1, Next: 15, Slots: []int{16}}}}, all}, {[]laid{{15, api.Node{Level: 1, Next: 11, Slots: []int{16}}}}, all}, {[]laid{{3, 15}, {15, api.Node{Level: 1, Next: 11}}}, and(low, 11, 13, 14, 15)}, {[]laid{{15, api.Node{Level: 1, Next: 21, Slots: []int{16}}}}, and(all, 21)}, {[]laid{{15, api.Node{Level: 1, Next: 21}}, {21, api.Node{Level: 1, Next: 12, Low: 20}}, {12, api.Node{Level: 1, Next: 21, Slots: []int{23}}}}, upTo(23, 16, 22)}, {[]laid{{17, api.Node{Level: 2, Next: 17, Slots: []int{18, 19}}}}, all}, {[]laid{{17, api.Node{Level: 2, Next: 11, Slots: []int{19}}}}, upTo(19, 11, 12, 13, 14, 18)}, {[]laid{{17, api.Node{Level: 2, Next: 22, Slots: []int{18, 19}}}}, all}, {[]laid{{17, api.Node{Level: 2, Next: 9, Slots: []int{18, 19}}}}, all}, {[]laid{{17, api.Node{Level: 2, Next: 23, Slots: []int{18, 19}}}}, all}, {[]laid{{17, api.Node{Level: 2, Next: 20, Slots: []int{18, 19}}}}, all}, {[]laid{{17, api.Node{Level: 2, Next: 255, Slots: []int{18, 19}}}}, all}, {[]laid{{17, api.Node{Level: 2, Next: 23, Slots: []int{18, 19}}}, {23, api.Node{Level: 2, Low: 20}}}, and(all, 20, 23)}, {[]laid{{11, api.Node{Level: 1, Next: 17, Slots: []int{13, 14}}}}, all},
		// Their Lows: a record of each Kind, no record, no block, one that is there anyway.
		{[]laid{{17, api.Node{Level: 2, Low: 20, Slots: []int{18, 19}}}}, and(all, 20)}, {[]laid{{17, api.Node{Level: 2, Low: 23, Slots: []int{18, 19}}}}, and(all, 23)}, {[]laid{{15, api.Node{Level: 1, Low: 12, Slots: []int{16}}}, {12, from("q", 22)}}, upTo(19)}, {[]laid{{17, api.Node{Level: 2, Low: 24, Slots: []int{18, 19}}}}, all}, {[]laid{{17, api.Node{Level: 2, Low: 255, Slots: []int{18, 19}}}}, all}, {[]laid{{17, api.Node{Level: 2, Low: 17, Slots: []int{18, 19}}}}, all}, {[]laid{{17, api.Node{Level: 2, Low: 1, Slots: []int{18, 19}}}}, all},
		// A node that is a slot, or a Low, is reached by that, but not gone through; and it is, if something else leads to it, whichever is first.
		{[]laid{cut, {17, api.Node{Level: 2, Slots: []int{18, 15}}}}, upTo(18, 12, 16)}, {[]laid{cut, {17, api.Node{Level: 2, Low: 15, Slots: []int{18}}}}, upTo(18, 12, 16)}, {[]laid{cut, {17, api.Node{Level: 2, Slots: []int{15, 18, 19}}}}, all}, {[]laid{cut, {17, api.Node{Level: 2, Slots: []int{18, 19, 15}}}}, all}, {[]laid{cut, {17, api.Node{Level: 2, Low: 15, Slots: []int{18, 19}}}}, all}, {[]laid{{11, api.Node{Level: 1, Next: 15, Low: 15, Slots: []int{15, 13, 14}}}}, all}, {[]laid{cut, {17, api.Node{Level: 2, Slots: []int{17, 11, 18, 19}}}}, all}, {[]laid{{17, api.Node{Level: 2, Slots: []int{21, 18, 19}}}}, and(all, 21)},
		// What the leaves reach: a Low that is no slot, slots that are there twice, none.
		{[]laid{{10, api.Node{Low: 7}}}, upTo(19, 12, 6, 8)}, {[]laid{{9, api.Node{Next: 10, Low: 4}}}, upTo(19, 12, 5)}, {[]laid{{1, api.Node{Next: 9, Slots: []int{2, 3, 3, 20, 20}}}}, upTo(20, 12)}, {[]laid{{1, api.Node{}}}, upTo(19, 12, 2, 3, 4, 5, 6, 7, 8, 9, 10)}, {[]laid{{1, api.Node{Slots: []int{8}}}, {3, 1}}, []int{0, 1, 8}}, {[]laid{{10, api.Node{Next: 22, Low: 7, Slots: []int{6, 8}}}, {22, api.Node{Low: 20}}}, upTo(22, 12, 21)},
	} {
		w := with(c.l...)
		r, e := arena.Reach(w)
		if !slices.Equal(r, c.reach) || e != api.OK {
			t.Errorf("row %d: %v, %v, not %v", i, r, e, c.reach)
		}
		looks(t, w, "row", i)
	}
}

// P11.3: of a chain of all levels all is reached, from each of them down, and no more; a level that is left out ends it.
func TestReachLevels(t *testing.T) {
	w := chain(40, 3)
	for level := range 10 {
		root := 5 + 2*level
		if level == 0 {
			root = 1
		}
		w[3] = root
		want := upTo(max(5, root))
		if r, e := arena.Reach(w); !slices.Equal(r, want) || e != api.OK {
			t.Fatalf("level %d: %v, %v", level, r, e)
		}
	}
	w[3] = 23
	for level := 8; level > 0; level-- {
		l := slices.Clone(w)
		lay(l, 5+2*level, api.Node{Level: level - 1, Slots: []int{39}})
		if r, e := arena.Reach(l); !slices.Equal(r, upTo(23, upTo(5 + 2*level)[6:]...)) || e != api.OK {
			t.Fatalf("level %d: %v, %v", level, r, e)
		}
	}
}

// P11.2, P11.3: as many leaves as there is room for, in blocks that fall, with all levels above.
func TestMany(t *testing.T) {
	for _, c := range []struct{ blocks, leaves int }{{256, 128}, {256, 100}, {256, 127}, {255, 127}, {40, 3}, {5, 2}} {
		w := chain(c.blocks, c.leaves)
		want := []int{1}
		for b := c.leaves; b > 1; b-- {
			want = append(want, b)
		}
		if l, e := arena.Leaves(w); !slices.Equal(l, want) || e != api.OK {
			t.Fatalf("%v: %v, %v", c, l, e)
		}
		above := min(9, (c.blocks-2*c.leaves)/2)
		if r, e := arena.Reach(w); !slices.Equal(r, upTo(2*c.leaves-1+2*above)) || e != api.OK || arena.Check(w) != api.OK {
			t.Fatalf("%v: %v, %v", c, r, e)
		}
		lows(t, w)
		for i := range c.leaves {
			lay(w, 2, api.Node{Low: 2*c.leaves - 1, Next: want[i]})
			if l, e := arena.Leaves(w); len(l) != 0 || e != api.ErrCorrupt {
				t.Fatalf("%v, on to %d: %v, %v", c, want[i], l, e)
			}
		}
	}
}

// P11.2, P11.3: each half of each word of each record that the leaves have changed, one at a time.
func TestHalves(t *testing.T) {
	for _, block := range []int{2, 3, 4, 5, 6, 7, 8} {
		for at := 16 * block; at < 16*block+16; at++ {
			for half := range 64 {
				w := with()
				w[at] ^= 1 << half
				halved(t, w, at, half)
			}
			for _, x := range []int{1<<32 - 1, 3, 1 << 31 * 3 / 2, 97, 0x55555555, 0xaaaaaaaa, 0xffff, 0xffff0000} {
				for _, half := range []int{0, 32} {
					w := with()
					w[at] ^= x << half
					halved(t, w, at, half)
				}
			}
		}
	}
}

// halved looks at an arena with a record that is none.
func halved(t *testing.T, w []int, at, half int) {
	t.Helper()
	l, e := arena.Leaves(w)
	r, f := arena.Reach(w)
	if !slices.Equal(l, []int{1, 9, 10}) || e != api.OK || len(r) != 0 || f != api.ErrCorrupt || arena.Check(w) != api.ErrCorrupt {
		t.Fatalf("word %d, %d: %v, %v, %v, %v", at, half, l, e, r, f)
	}
	lowIs(t, w, 9)
	lowIs(t, w, 10)
}

// P11.3: blocks that are not reached change nothing, whatever is in them.
func TestNotReached(t *testing.T) {
	for _, w := range made() {
		leaves, _ := arena.Leaves(w)
		reach, _ := arena.Reach(w)
		for block := range len(w) / 16 {
			if slices.Contains(reach, block) || block > 40 && block < len(w)/16-2 {
				continue
			}
			for i, what := range []any{pair("a"), pair("zz"), from("", 1), from("m", 200), api.Node{}, api.Node{Next: block}, api.Node{Level: 1, Next: 1, Slots: []int{block}}, api.Node{Level: 2, Low: 255, Slots: []int{2, 2, 1}}, api.Node{Level: 9}, -1, 1 << 60, 7015, math.MinInt} {
				l := slices.Clone(w)
				if x, ok := what.(int); ok {
					copy(l[16*block:16*block+16], slices.Repeat([]int{x}, 16))
				} else {
					lay(l, block, what)
				}
				a, e := arena.Leaves(l)
				b, f := arena.Reach(l)
				_, root, _ := super.Read(l)
				if root == block || leadsTo(w, reach, block) {
					looks(t, l, block, i) // what is laid there may be reached now
				} else if !slices.Equal(a, leaves) || e != api.OK || !slices.Equal(b, reach) || f != api.OK || arena.Check(l) != api.OK {
					t.Fatalf("block %d of %d, row %d: %v, %v, %v, %v", block, len(w)/16, i, a, e, b, f)
				}
			}
		}
	}
}

// leadsTo tells whether one of some blocks has a word of that number, by which a node laid there could be reached.
func leadsTo(w, blocks []int, block int) bool {
	return slices.ContainsFunc(blocks, func(b int) bool { return slices.Contains(w[16*b:16*b+16], block) })
}

// odd are values of all kinds for a word of an arena of some twenty blocks.
func odd() []int {
	out := []int{math.MinInt, -1 << 60, -1 << 32, -16, -1, 255, 256, 257, 7014, 7015, 1 << 16, 1<<32 + 1, 1<<60 - 1, 1<<60 + 16*api.MaxTurn, 1<<60 + 16*api.MaxTurn + 1, 1<<60 + 16*api.MaxTurn + 16, 1<<60 + 10, 1<<60 + 15, 1<<60 + 16, 1<<60 + 17, 1 << 61, math.MaxInt}
	for x := range 25 {
		out = append(out, x)
	}
	for level := range 10 {
		out = append(out, 1<<60+level)
	}
	return out
}

// P11.1 to P11.4: each word of arenas of many kinds as another one.
func TestEachWord(t *testing.T) {
	sound, wrong := 0, 0
	least, _ := arena.New(2)
	all := made()
	for i, w := range append(all[len(all)-2:], with(), full(), chain(10, 2), least) {
		for at := range w {
			was := w[at]
			for _, x := range append(odd(), was+1, was-1, ^was, was^math.MinInt) {
				w[at] = x
				if looks(t, w, "arena", i, "word", at, "as", x) {
					sound++
				} else {
					wrong++
				}
				lowIs(t, w, at/16)
				w[at] = was
			}
			lows(t, w)
		}
	}
	if sound < 10000 || wrong < 10000 {
		t.Errorf("%d, %d", sound, wrong)
	}
}

// dice are numbers that look as if thrown, the same ones each time.
type dice uint64

func (d *dice) below(n int) int {
	*d = *d*6364136223846793005 + 1442695040888963407
	return int(uint64(*d)>>33) % n
}

func (d *dice) of(l ...int) int { return l[d.below(len(l))] }

// thrown is something to lay into a block, of numbers below most.
func (d *dice) thrown(most int) any {
	switch d.below(5) {
	case 0:
		return pair([]string{"a", "b", "f", "m", "n", "p", "t", "x", "z"}[d.below(9)])
	case 1:
		return from([]string{"", "b", "m", "t", "z"}[d.below(5)], 1+d.below(most-1))
	case 2:
		n := api.Node{Next: d.of(0, 0, 9, 10, d.below(most)), Low: d.of(0, 4, 7, d.below(most))}
		for range d.below(4) {
			n.Slots = append(n.Slots, d.of(2, 3, 4, 5, 6, 8, 1+d.below(most-1)))
		}
		return n
	default:
		n := api.Node{Level: 1 + d.below(3), Turn: d.below(4), Next: d.of(0, 0, 11, 15, 17, d.below(most)), Low: d.of(0, d.below(most))}
		for range d.below(5) {
			n.Slots = append(n.Slots, d.of(13, 14, 16, 18, 19, 1+d.below(most-1)))
		}
		return n
	}
}

// P11.2 to P11.4: the base with some blocks laid anew, of all kinds, and other roots.
func TestThrown(t *testing.T) {
	d := dice(1)
	sound, wrong := 0, 0
	for i := range 40000 {
		w := with()
		for range 1 + d.below(6) {
			block := d.of(1+d.below(23), 11+d.below(13), 11+d.below(13))
			lay(w, block, d.thrown(d.of(24, 24, 24, 256)))
		}
		w[3] = d.of(17, 17, 17, 1+d.below(23))
		if looks(t, w, "throw", i) {
			sound++
		} else {
			wrong++
		}
		lowIs(t, w, d.below(24))
	}
	if sound < 5000 || wrong < 5000 {
		t.Errorf("%d, %d", sound, wrong)
	}
}

// P11.2 to P11.4: small arenas, all of whose blocks are thrown.
func TestThrownWhole(t *testing.T) {
	d := dice(2)
	sound := 0
	for i := range 40000 {
		blocks := 2 + d.below(9)
		w := built(blocks, 1+d.below(blocks-1), laid{1, api.Node{Next: d.of(0, d.below(blocks))}})
		for block := 2; block < blocks; block++ {
			if d.below(6) > 0 {
				lay(w, block, d.thrown(blocks))
			}
		}
		if looks(t, w, "throw", i) {
			sound++
		}
		lows(t, w, "throw", i)
	}
	if sound < 5000 {
		t.Errorf("%d", sound)
	}
}

// P11.4: of a sound arena what is reached is in it, rises, and has the first block, the leaves, and what they have.
func TestInIt(t *testing.T) {
	for i, w := range made() {
		leaves, e := arena.Leaves(w)
		r, f := arena.Reach(w)
		if e != api.OK || f != api.OK || arena.Check(w) != api.OK {
			t.Fatalf("arena %d: %v, %v", i, e, f)
		}
		for j, b := range r {
			if b < 0 || b >= len(w)/16 || j > 0 && r[j-1] >= b {
				t.Fatalf("arena %d: %v", i, r)
			}
		}
		for _, b := range leaves {
			n, _ := isNode(w, b)
			for _, x := range append([]int{0, b, n.Low}, n.Slots...) {
				if !slices.Contains(r, x) {
					t.Fatalf("arena %d: %d is not among %v", i, x, r)
				}
			}
		}
		looks(t, w, "arena", i)
	}
}

// P11.4: whatever words there are, short and long ones, something is told.
func TestWhatever(t *testing.T) {
	d := dice(3)
	for _, n := range []int{0, 1, 2, 3, 15, 16, 17, 31, 32, 33, 47, 48, 100, 4080, 4095, 4096, 4097, 4112, 5000, 70000} {
		for _, x := range []int{0, 1, 2, -1, 7015, 1 << 60, 1<<60 + 1, math.MaxInt, math.MinInt} {
			w := slices.Repeat([]int{x}, n)
			looks(t, w, n, x)
			lowIs(t, w, 1)
			for blocks := range 3 {
				copy(w, []int{7015, n/16 + blocks, sum.Of([]int{7015, n/16 + blocks}), 1, 0, 0, 0, 0, 0, 0, 0, 0, 0, 0, 0, 0})
				looks(t, w, n, x, blocks)
			}
		}
		for range 200 {
			w := make([]int, n)
			for at := range w {
				w[at] = d.of(0, 0, 1, 2, 3, 1<<60, 1<<60+1, 7015, -1, d.below(256), math.MinInt)
			}
			looks(t, w, n)
			lowIs(t, w, d.below(5))
			if n >= 32 {
				copy(w, built(max(2, n/16), 1, laid{1, api.Node{Next: d.below(5)}})[:32])
				looks(t, w, n)
				lowIs(t, w, 1)
			}
		}
	}
}

// P11.4: an arena that ends anywhere, and one that is read from anywhere on, tells something.
func TestPieces(t *testing.T) {
	w := with()
	for n := range len(w) + 1 {
		if looks(t, w[:n], n) != (n == len(w)) || looks(t, w[n:], n) != (n == 0) {
			t.Fatalf("%d", n)
		}
		lowIs(t, w[:n], 9)
		lowIs(t, w[n:], 9)
	}
}

// withRoom is w with spare room behind it, which would be more of an arena, and whether both are as they were.
func withRoom(w []int) ([]int, func() bool) {
	room := slices.Concat(w, []int{1 << 60, 0, 0, 1, 2, 3, 4, 5, 6, 7, 8, 9, 10, 11, 12, 13, 0, -1, 99})
	was := slices.Clone(room)
	return room[:len(w)], func() bool { return slices.Equal(room, was) }
}

// spoil writes over a list and its spare room.
func spoil(l []int) {
	l = l[:cap(l)]
	for i := range l {
		l[i] = -5
	}
}

// R4, R5: what is handed in stays as it was, its spare room too, and nothing hangs on that room, nor shares memory with what is told.
func TestHandedIn(t *testing.T) {
	arenas := append(made(), nil, []int{1}, with(laid{16, 0}), with(laid{3, pair("b")}), with()[:16*23], with()[:16*24-1])
	for i, l := range arenas {
		w, stays := withRoom(l)
		looks(t, w, "arena", i)
		lows(t, w, "arena", i)
		leaves, _ := arena.Leaves(w)
		reach, _ := arena.Reach(w)
		again, _ := arena.Leaves(w)
		more, _ := arena.Reach(w)
		if !stays() || !slices.Equal(w, l) {
			t.Fatalf("arena %d was changed", i)
		}
		spoil(again)
		spoil(more)
		if !stays() {
			t.Fatalf("arena %d is shared", i)
		}
		spoil(w)
		if want, _ := wantLeaves(l); !slices.Equal(leaves, want) {
			t.Fatalf("arena %d: %v, not %v", i, leaves, want)
		}
		if want, _ := wantReach(l); !slices.Equal(reach, want) {
			t.Fatalf("arena %d: %v, not %v", i, reach, want)
		}
	}
}

// R4: what New tells is new each time.
func TestNewIsNew(t *testing.T) {
	for _, blocks := range []int{2, 3, 255, 256} {
		a, _ := arena.New(blocks)
		b, _ := arena.New(blocks)
		spoil(a)
		if !slices.Equal(b, built(blocks, 1, laid{1, api.Node{}})) {
			t.Fatalf("%d: %v", blocks, b)
		}
	}
}
