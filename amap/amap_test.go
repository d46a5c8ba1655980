package amap_test

import (
	"math"
	"slices"
	"strconv"
	"strings"
	"testing"

	"lamplighter/amap"
	"lamplighter/api"
	"lamplighter/arena"
	"lamplighter/node"
	"lamplighter/rec"
	"lamplighter/sum"
)

// pair is a record of a pair, from one that leads to a node.
func pair(key, val string) api.Rec       { return api.Rec{Kind: api.RPair, Key: key, Val: val} }
func from(key string, child int) api.Rec { return api.Rec{Kind: api.RNode, Key: key, Child: child} }

// leaf is a leaf's node.
func leaf(next, low int, slots ...int) api.Node {
	return api.Node{Next: next, Low: low, Slots: slots}
}

// laid is what is laid into a block, or, of a number, what is stored at a word.
type laid struct {
	at   int
	what any
}

// lay lays a record, or a node, into a block of words.
func lay(w []int, block int, what any) {
	var l []int
	e := api.ErrArg
	switch x := what.(type) {
	case api.Rec:
		l, e = rec.Words(x)
	case api.Node:
		l, e = node.Words(x)
	}
	if e != api.OK || len(w) < 16*block+16 {
		panic("what is to be laid may not be: " + strconv.Itoa(block))
	}
	copy(w[16*block:], l)
}

// built is an arena of so many blocks, with what is laid into it, one behind the other.
func built(blocks, root int, l ...laid) []int {
	w := slices.Concat([]int{7015, blocks, sum.Of([]int{7015, blocks}), root}, make([]int, 16*blocks-4))
	for _, x := range l {
		if val, ok := x.what.(int); ok {
			w[x.at] = val
		} else {
			lay(w, x.at, x.what)
		}
	}
	return w
}

// with is an arena of three leaves (1, 9, 10), a node above these (11), which is the root, and blocks that are not reached (12, and 15 to 19), with some of it laid otherwise.
func with(l ...laid) []int {
	return built(20, 11, append([]laid{
		{1, leaf(9, 0, 2, 3)}, {2, pair("b", "1")}, {3, pair("f", "")},
		{9, api.Node{Turn: 3, Next: 10, Low: 5, Slots: []int{5, 4}}}, {5, pair("m", "9")}, {4, pair("p", "2")},
		{10, api.Node{Turn: 2, Low: 7, Slots: []int{6, 8}}}, {7, from("t", 10)}, {6, pair("t", "3")}, {8, pair("x", "4")},
		{11, api.Node{Level: 1, Slots: []int{13, 14}}}, {13, from("", 1)}, {14, from("t", 10)},
		{15, pair("c", "5")}, {16, leaf(0, 0, 15)}, {17, leaf(10, 4, 4)}, {18, api.Node{Level: 1}},
	}, l...)...)
}

// list are pairs, of texts that are a key and, behind a colon, its value.
func list(l ...string) []api.Pair {
	var out []api.Pair
	for _, s := range l {
		key, val, _ := strings.Cut(s, ":")
		out = append(out, api.Pair{Key: key, Val: val})
	}
	return out
}

// isLeaf is what a leaf's own pairs are to be.
type isLeaf struct {
	block int
	own   []api.Pair
}

func is(block int, l ...string) isLeaf { return isLeaf{block, list(l...)} }

// fromKey is the document's sentence on from which key on a node is.
func fromKey(w []int, block int) string {
	n, _ := node.Read(w, block)
	if n.Low == 0 {
		return ""
	}
	x, _ := rec.Read(w, n.Low)
	return x.Key
}

// wantLeaves are the document's sentences on each leaf of a sound arena, and its own pairs.
func wantLeaves(w []int) []isLeaf {
	var out []isLeaf
	for block := 1; block != 0; {
		n, _ := node.Read(w, block)
		l := isLeaf{block: block}
		for i, slot := range n.Slots {
			x, _ := rec.Read(w, slot)
			twice := i > 0 && n.Slots[i-1] == slot
			if !twice && (n.Next == 0 || strings.Compare(x.Key, fromKey(w, n.Next)) < 0) {
				l.own = append(l.own, api.Pair{Key: x.Key, Val: x.Val})
			}
		}
		out = append(out, l)
		block = n.Next
	}
	return out
}

// all are the own pairs of all leaves.
func all(l []isLeaf) []api.Pair {
	var out []api.Pair
	for _, x := range l {
		out = append(out, x.own...)
	}
	return out
}

// far are blocks that no arena has.
func far() []int {
	return []int{math.MinInt, math.MinInt + 1, math.MinInt / 16, -1 << 60, 1 - 1<<60, -1 << 32, -256, -255, -16, 255, 256, 257, 4096, 1 << 28, 1 << 32, 1<<32 + 1, 1 << 60, 1<<60 + 1, math.MaxInt/16 + 1, math.MaxInt}
}

// rises tells whether keys rise, none of which may be empty.
func rises(l []api.Pair) bool {
	for i, p := range l {
		if p.Key == "" || i > 0 && strings.Compare(l[i-1].Key, p.Key) >= 0 {
			return false
		}
	}
	return true
}

// ownIs holds Own of a block against the leaves that are to be, of which there are none if the arena is not sound.
func ownIs(t *testing.T, w []int, block int, want []isLeaf, what ...any) {
	t.Helper()
	var own []api.Pair
	e := api.ErrArg
	if len(want) == 0 {
		e = api.ErrCorrupt
	}
	for _, x := range want {
		if x.block == block {
			own, e = x.own, api.OK
		}
	}
	if l, f := amap.Own(w, block); !slices.Equal(l, own) || f != e {
		t.Fatalf("%v: Own of %d: %q, %v, not %q, %v", what, block, l, f, own, e)
	}
}

// pairsAre holds Pairs against the leaves that are to be.
func pairsAre(t *testing.T, w []int, want []isLeaf, what ...any) {
	t.Helper()
	e := api.OK
	if len(want) == 0 {
		e = api.ErrCorrupt
	}
	l, f := amap.Pairs(w)
	if !slices.Equal(l, all(want)) || f != e || !rises(l) {
		t.Fatalf("%v: Pairs: %q, %v, not %q, %v", what, l, f, all(want), e)
	}
}

// are holds all that is told of words against the leaves that are to be.
func are(t *testing.T, w []int, want []isLeaf, what ...any) {
	t.Helper()
	pairsAre(t, w, want, what...)
	for block := -2; block < len(w)/16+3; block++ {
		ownIs(t, w, block, want, what...)
	}
	for _, block := range far() {
		ownIs(t, w, block, want, what...)
	}
}

// wanted are the leaves that the document's sentences tell of words: none, if these are no sound arena.
func wanted(w []int) []isLeaf {
	if arena.Check(w) != api.OK {
		return nil
	}
	return wantLeaves(w)
}

// sample is a sound arena, and its leaves written out.
type sample struct {
	words  []int
	leaves []isLeaf
}

// samples are sound arenas of all kinds that have leaves of their own.
func samples() []sample {
	ff := strings.Repeat("\xff", 21)
	long := strings.Repeat("v", 21)
	base := []isLeaf{is(1, "b:1", "f"), is(9, "m:9", "p:2"), is(10, "t:3", "x:4")}
	return []sample{
		{with(), base},
		{with(laid{3, 1}), base}, {with(laid{3, 19}), base}, {with(laid{3, 10}), base},
		// One leaf, empty or not; what else could be a leaf is none.
		{with(laid{1, leaf(0, 0)}), []isLeaf{is(1)}},
		{with(laid{1, leaf(0, 0, 2)}), []isLeaf{is(1, "b:1")}},
		{with(laid{1, leaf(0, 0, 3)}), []isLeaf{is(1, "f:")}},
		{with(laid{1, leaf(0, 0, 2, 3, 5, 4, 6, 8)}), []isLeaf{is(1, "b:1", "f", "m:9", "p:2", "t:3", "x:4")}},
		// Some of several leaves are empty, or all.
		{with(laid{1, leaf(9, 0)}), []isLeaf{is(1), base[1], base[2]}},
		{with(laid{9, leaf(10, 5)}), []isLeaf{base[0], is(9), base[2]}},
		{with(laid{10, leaf(0, 7)}), []isLeaf{base[0], base[1], is(10)}},
		{with(laid{1, leaf(9, 0)}, laid{9, leaf(10, 5)}), []isLeaf{is(1), is(9), base[2]}},
		{with(laid{1, leaf(9, 0)}, laid{10, leaf(0, 7)}), []isLeaf{is(1), base[1], is(10)}},
		{with(laid{1, leaf(9, 0)}, laid{9, leaf(10, 5)}, laid{10, leaf(0, 7)}), []isLeaf{is(1), is(9), is(10)}},
		// The last keys stand at, or behind, the one from which on the next one is.
		{with(laid{1, leaf(9, 0, 2, 3, 5)}), base},
		{with(laid{1, leaf(9, 0, 2, 3, 4)}), base},
		{with(laid{1, leaf(9, 0, 2, 3, 5, 4)}), base},
		{with(laid{1, leaf(9, 0, 2, 3, 5, 4, 6, 8)}), base},
		{with(laid{1, leaf(9, 0, 5)}), []isLeaf{is(1), base[1], base[2]}},
		{with(laid{1, leaf(9, 0, 4)}), []isLeaf{is(1), base[1], base[2]}},
		{with(laid{1, leaf(9, 0, 5, 4, 6, 8)}), []isLeaf{is(1), base[1], base[2]}},
		{with(laid{9, leaf(10, 5, 5, 4, 6)}), base},
		{with(laid{9, leaf(10, 5, 5, 6, 8)}), []isLeaf{base[0], is(9, "m:9"), base[2]}},
		{with(laid{9, leaf(10, 5, 6, 8)}), []isLeaf{base[0], is(9), base[2]}},
		{with(laid{9, leaf(10, 5, 8)}), []isLeaf{base[0], is(9), base[2]}},
		{with(laid{1, leaf(9, 0, 5)}, laid{9, leaf(10, 5, 8)}), []isLeaf{is(1), is(9), base[2]}},
		{with(laid{1, leaf(9, 0, 8)}, laid{9, leaf(10, 5, 8)}, laid{10, leaf(0, 7)}), []isLeaf{is(1), is(9), is(10)}},
		// It is the next one's that counts, and no other one's.
		{with(laid{1, leaf(10, 0, 2, 5, 4)}), []isLeaf{is(1, "b:1", "m:9", "p:2"), base[2]}},
		{with(laid{1, leaf(9, 0, 2, 15)}, laid{9, leaf(0, 3, 3, 5, 4, 8)}), []isLeaf{is(1, "b:1", "c:5"), is(9, "f", "m:9", "p:2", "x:4")}},
		// The same key with another value: the next one's counts, and is told once.
		{with(laid{1, leaf(9, 0, 2, 15)}, laid{15, pair("m", "old")}), []isLeaf{is(1, "b:1"), base[1], base[2]}},
		{with(laid{1, leaf(9, 0, 2, 15)}, laid{15, pair("p", "old")}), []isLeaf{is(1, "b:1"), base[1], base[2]}},
		{with(laid{9, leaf(10, 5, 5, 15)}, laid{15, pair("t", "old")}), []isLeaf{base[0], is(9, "m:9"), base[2]}},
		// A record that the next one is from, but that is none of its slots; and one that leads to a node.
		{with(laid{9, leaf(10, 5, 4)}), []isLeaf{base[0], is(9, "p:2"), base[2]}},
		{with(laid{9, leaf(10, 15, 5, 4)}, laid{15, pair("c", "5")}), []isLeaf{is(1, "b:1"), base[1], base[2]}},
		{with(laid{9, leaf(10, 15, 5, 4)}, laid{15, from("g", 200)}), base},
		{with(laid{9, leaf(10, 15, 5, 4)}, laid{15, from("f", 200)}), []isLeaf{is(1, "b:1"), base[1], base[2]}},
		// Keys that differ only in how long they are, or in the last byte of the longest ones.
		{with(laid{1, leaf(9, 0, 2, 15)}, laid{2, pair("m", "1")}, laid{15, pair("m\x00", "2")}, laid{9, leaf(10, 4, 4)}, laid{4, pair("m\x00", "3")}), []isLeaf{is(1, "m:1"), is(9, "m\x00:3"), base[2]}},
		{with(laid{1, leaf(9, 0, 2, 15)}, laid{2, pair("m", "1")}, laid{15, pair("m\x00", "2")}, laid{9, leaf(10, 4, 4)}, laid{4, pair("m\x00\x00", "3")}), []isLeaf{is(1, "m:1", "m\x00:2"), is(9, "m\x00\x00:3"), base[2]}},
		{with(laid{1, leaf(9, 0, 2, 3)}, laid{2, pair("\x00", "\x00")}, laid{3, pair(ff[1:], long)}, laid{9, leaf(0, 4, 4)}, laid{4, pair(ff, ff)}), []isLeaf{is(1, "\x00:\x00", ff[1:]+":"+long), is(9, ff+":"+ff)}},
		{with(laid{1, leaf(9, 0, 2, 3)}, laid{2, pair(ff[1:]+"\xfe", "1")}, laid{3, pair(ff, "2")}, laid{9, leaf(0, 4)}, laid{4, from(ff, 1)}), []isLeaf{is(1, ff[1:]+"\xfe:1"), is(9)}},
		{with(laid{1, leaf(9, 0, 2, 3)}, laid{2, pair("\x7f", "1")}, laid{3, pair("\x80", "2")}, laid{9, leaf(0, 4)}, laid{4, from("\x80", 1)}), []isLeaf{is(1, "\x7f:1"), is(9)}},
		// The same slot twice side by side, or more often: ahead, in the midst, behind, all of them, where it is its own and where it is not.
		{with(laid{1, leaf(9, 0, 2, 2, 3)}), base},
		{with(laid{1, leaf(9, 0, 2, 3, 3)}), base},
		{with(laid{1, leaf(9, 0, 2, 2, 2, 3, 3, 3)}), base},
		{with(laid{1, leaf(9, 0, 2, 2)}), []isLeaf{is(1, "b:1"), base[1], base[2]}},
		{with(laid{1, leaf(9, 0, 2, 3, 5, 5)}), base},
		{with(laid{1, leaf(9, 0, 5, 5, 4, 4)}), []isLeaf{is(1), base[1], base[2]}},
		{with(laid{9, leaf(10, 5, 5, 5, 4, 4, 6, 6)}), base},
		{with(laid{10, leaf(0, 7, 6, 6, 8)}), base},
		{with(laid{10, leaf(0, 7, 6, 8, 8)}), base},
		{with(laid{10, leaf(0, 7, 6, 6, 6, 6, 6, 6, 6, 8, 8, 8, 8, 8, 8)}), base},
		// What else the arena has, and how often leaves were turned, is nothing to it.
		{with(laid{1, api.Node{Turn: api.MaxTurn, Next: 9, Slots: []int{2, 3}}}, laid{9, api.Node{Turn: 1, Next: 10, Low: 5, Slots: []int{5, 4}}}), base},
		{with(laid{11, pair("a", "a")}, laid{13, leaf(1, 1, 1)}, laid{16 * 12, 7015}), base},
		{with(laid{11, api.Node{Level: 9, Next: 255, Low: 255, Slots: []int{255, 2, 15}}}), base},
		{built(15, 1, fullLaid()...), []isLeaf{{1, fullPairs()}}},
	}
}

// fullLaid is a leaf of as many slots as there can be, each another one, and fullPairs what it has.
func fullLaid() []laid {
	var slots []int
	var out []laid
	for i, p := range fullPairs() {
		slots = append(slots, 14-i)
		out = append(out, laid{14 - i, pair(p.Key, p.Val)})
	}
	return append(out, laid{1, leaf(0, 0, slots...)})
}

func fullPairs() []api.Pair {
	var out []api.Pair
	for i := range 13 {
		out = append(out, api.Pair{Key: strings.Repeat("k", i+1), Val: strings.Repeat("v", i%3)})
	}
	return out
}

// many is an arena of so many leaves, each of which but the first one has a key, in blocks that fall.
func many(blocks, leaves int) sample {
	var l []laid
	var want []isLeaf
	block := func(i int) int { return (leaves-i)%leaves + 1 }
	for i := range leaves {
		n := leaf(0, 0)
		own := isLeaf{block: block(i)}
		if i > 0 {
			p := api.Pair{Key: "k" + strconv.Itoa(1000+i), Val: strconv.Itoa(i)}
			n = leaf(0, leaves+i, leaves+i)
			l = append(l, laid{leaves + i, pair(p.Key, p.Val)})
			own.own = []api.Pair{p}
		}
		if i < leaves-1 {
			n.Next = block(i + 1)
		}
		l = append(l, laid{block(i), n})
		want = append(want, own)
	}
	return sample{built(blocks, 1, l...), want}
}

// P12.1: sound arenas of all kinds, with what each leaf has of its own written out; no block else has any.
func TestPairs(t *testing.T) {
	for i, x := range samples() {
		if e := arena.Check(x.words); e != api.OK {
			t.Fatalf("row %d is not sound: %v", i, e)
		}
		are(t, x.words, x.leaves, "row", i)
		are(t, x.words, wantLeaves(x.words), "row", i)
	}
}

// P12.1: new arenas have one leaf, and no pairs.
func TestNew(t *testing.T) {
	for blocks := 2; blocks <= 256; blocks++ {
		w, _ := arena.New(blocks)
		l, e := amap.Pairs(w)
		own, f := amap.Own(w, 1)
		none, g := amap.Own(w, blocks-1)
		if len(l) != 0 || e != api.OK || len(own) != 0 || f != api.OK || len(none) != 0 || g == api.OK != (blocks == 2) {
			t.Fatalf("%d: %q, %v, %q, %v, %q, %v", blocks, l, e, own, f, none, g)
		}
	}
	w, _ := arena.New(4)
	are(t, w, []isLeaf{is(1)})
}

// P12.1: as many leaves as there is room for.
func TestMany(t *testing.T) {
	for _, c := range []struct{ blocks, leaves int }{{256, 128}, {256, 100}, {255, 127}, {40, 3}, {5, 2}} {
		x := many(c.blocks, c.leaves)
		pairsAre(t, x.words, x.leaves, c)
		for block := -1; block <= c.blocks+1; block++ {
			ownIs(t, x.words, block, x.leaves, c)
		}
	}
}

// P12.1: Own of a block that is no leaf, written out.
func TestNoLeaf(t *testing.T) {
	w := with()
	for _, c := range []struct {
		what  string
		block int
	}{
		{"the first block", 0}, {"a record that the first leaf has", 2}, {"a record that the next one has", 4}, {"a record that a leaf is from", 7},
		{"a free block", 12}, {"a free block", 19}, {"the root", 11}, {"a node above the leaves", 18}, {"a record of a node", 13},
		{"a pair that no leaf has", 15}, {"a node of the Level 0 that is none of the leaves", 16}, {"one that leads to a leaf", 17},
		{"below 0", -1}, {"below 0", -9}, {"behind all", 20}, {"behind all", 21}, {"far off", 255}, {"far off", 256}, {"far off", 1 << 32},
		{"as many words off as a leaf", 1<<60 + 1}, {"far off", math.MaxInt}, {"far below 0", math.MinInt}, {"far below 0", math.MinInt + 1},
	} {
		if l, e := amap.Own(w, c.block); len(l) != 0 || e != api.ErrArg {
			t.Errorf("%s (%d): %q, %v", c.what, c.block, l, e)
		}
	}
}

// P12.1: arenas that are not sound: of whatever block it is that which is told.
func TestNotSound(t *testing.T) {
	w := with()
	least, _ := arena.New(4)
	for i, l := range [][]int{
		// No words, too few, not the blocks that are told of.
		nil, {}, {0}, {7015}, w[:4], w[:16], w[:32], w[:19*16], w[:20*16-1], append(slices.Clone(w), make([]int, 16)...), w[16:], make([]int, 32), make([]int, 320), least[:16], least[:63], least[16:], built(257, 1, laid{1, leaf(0, 0)}),
		// A first block that is none.
		with(laid{0, 0}), with(laid{0, 7014}), with(laid{1, 19}), with(laid{1, 21}), with(laid{2, 0}), with(laid{2, w[2] + 1}), with(laid{3, 0}), with(laid{3, 20}), with(laid{3, -1}), with(laid{4, 1}), with(laid{15, 1}), with(laid{0, leaf(0, 0)}), with(laid{0, pair("a", "b")}),
		// Leaves that are none, or are there twice.
		with(laid{1, pair("a", "b")}), with(laid{1, api.Node{Level: 1, Next: 9, Slots: []int{2, 3}}}), with(laid{16, 0}), with(laid{16, 1<<60 - 1}), with(laid{17, -1}), with(laid{17, 256}), with(laid{19, 0}), with(laid{10, api.Node{Level: 1, Low: 7, Slots: []int{6}}}), with(laid{10, from("t", 1)}), with(laid{160, 0}), with(laid{10, leaf(11, 7)}), with(laid{10, leaf(12, 7)}), with(laid{10, leaf(20, 7)}), with(laid{10, leaf(255, 7)}), with(laid{1, leaf(1, 0)}), with(laid{9, leaf(9, 5, 5)}), with(laid{10, leaf(1, 7, 6)}), with(laid{10, leaf(9, 7, 6)}), with(laid{10, leaf(10, 7)}),
		// Keys that do not rise, also where they are not a leaf's own.
		with(laid{1, leaf(9, 0, 3, 2)}), with(laid{1, leaf(9, 0, 2, 3, 2)}), with(laid{1, leaf(9, 0, 2, 3, 4, 5)}), with(laid{1, leaf(9, 0, 5, 4, 2)}), with(laid{1, leaf(9, 0, 2, 15)}, laid{15, pair("b", "1")}), with(laid{1, leaf(9, 0, 5, 15)}, laid{15, pair("m", "1")}), with(laid{10, leaf(0, 7, 8, 6)}),
		// Keys ahead of the one from which on a leaf is.
		with(laid{9, leaf(10, 5, 3, 5)}), with(laid{9, leaf(10, 4, 5, 4)}), with(laid{10, leaf(0, 7, 4)}), with(laid{10, leaf(0, 8, 6, 8)}),
		// Slots that are no pairs.
		with(laid{1, leaf(9, 0, 2, 1)}), with(laid{1, leaf(9, 0, 12)}), with(laid{1, leaf(9, 0, 2, 20)}), with(laid{1, leaf(9, 0, 2, 255)}), with(laid{1, leaf(9, 0, 13)}), with(laid{1, leaf(9, 0, 2, 7)}), with(laid{32, 2}), with(laid{35, 0}), with(laid{8 * 16, 0}), with(laid{8*16 + 15, 1}), with(laid{5*16 + 2, 0}),
		// A Low that is wrong: of the first leaf one at all, of others none, no record, no block, an empty key, one that does not stand behind that ahead.
		with(laid{1, leaf(9, 2, 2, 3)}), with(laid{1, leaf(9, 13, 2, 3)}), with(laid{9, leaf(10, 0, 5, 4)}), with(laid{10, leaf(0, 0, 6, 8)}), with(laid{9, leaf(10, 12, 5, 4)}), with(laid{9, leaf(10, 1, 5, 4)}), with(laid{9, leaf(10, 20, 5, 4)}), with(laid{9, leaf(10, 255, 5, 4)}), with(laid{9, leaf(10, 13, 5, 4)}), with(laid{10, leaf(0, 5, 6, 8)}), with(laid{10, leaf(0, 3, 6, 8)}), with(laid{7*16 + 3, 0}), with(laid{9, leaf(10, 4)}, laid{10, leaf(0, 5)}),
	} {
		if arena.Check(l) == api.OK {
			t.Errorf("row %d is sound", i)
		}
		are(t, l, nil, "row", i)
	}
}

// P12.1: words behind the last whole block are no part of the arena.
func TestPartOfABlock(t *testing.T) {
	for i, x := range samples() {
		for n := range 16 {
			l := append(slices.Clone(x.words), []int{1 << 60, 1, 2, 3, -4, 7015, 1, 1, 1, 1, 1, 1, 1, 1, 1}[:n]...)
			pairsAre(t, l, x.leaves, "row", i, n)
			ownIs(t, l, len(l)/16, x.leaves, "row", i, n)
			ownIs(t, l, 1, x.leaves, "row", i, n)
		}
	}
}

// P12.1: each word of some arenas as another one.
func TestEachWord(t *testing.T) {
	sound, wrong := 0, 0
	least, _ := arena.New(3)
	for i, w := range [][]int{with(), with(laid{1, leaf(9, 0, 2, 3, 3, 5, 4, 6)}, laid{9, leaf(10, 5, 8)}), built(15, 1, fullLaid()...), least} {
		for at := range w {
			was := w[at]
			for _, x := range append(upTo(20), -1, was+1, was-1, was^math.MinInt, 255, 256, 7015, 1<<60, 1<<60+1, 1<<60+16, math.MaxInt, math.MinInt) {
				w[at] = x
				want := wanted(w)
				pairsAre(t, w, want, "arena", i, "word", at, "as", x)
				for _, block := range []int{0, 1, 2, 9, 10, at / 16} {
					ownIs(t, w, block, want, "arena", i, "word", at, "as", x)
				}
				if len(want) > 0 {
					sound++
				} else {
					wrong++
				}
			}
			w[at] = was
		}
	}
	if sound < 5000 || wrong < 5000 {
		t.Errorf("%d, %d", sound, wrong)
	}
}

// upTo are the numbers from 0 to n.
func upTo(n int) []int {
	var out []int
	for x := range n + 1 {
		out = append(out, x)
	}
	return out
}

// dice are numbers that look as if thrown, the same ones each time.
type dice uint64

func (d *dice) below(n int) int {
	*d = *d*6364136223846793005 + 1442695040888963407
	return int(uint64(*d)>>33) % n
}

// thrown is an arena of one to four leaves, with pairs of few keys in order, some of them behind what the next one is from.
func (d *dice) thrown() []int {
	const keys = "bcdefghijk"
	var l []laid
	for i := range len(keys) {
		l = append(l, laid{10 + i, pair(keys[i:i+1], strconv.Itoa(i))}, laid{20 + i, pair(keys[i:i+1], "")})
	}
	low := 0
	for block, leaves := 1, 1+d.below(4); block <= leaves; block++ {
		n := leaf(block+1, 0)
		if block == leaves {
			n.Next = 0
		}
		if block > 1 {
			low += d.below(4)
			n.Low = 10 + min(low, 9) + 10*d.below(2)
		}
		for at := low; at < 10 && len(n.Slots) < 12; at += 1 + d.below(3) {
			slot := 10 + at + 10*d.below(2)
			n.Slots = append(n.Slots, slot)
			if d.below(3) == 0 {
				n.Slots = append(n.Slots, slot)
			}
			if d.below(4) == 0 {
				break
			}
		}
		l = append(l, laid{block, n})
	}
	return built(30, 1, l...)
}

// P12.1, P12.3: arenas that are thrown, sound and not; what is put, and taken away, is there, or not, and nothing else is changed by it.
func TestThrown(t *testing.T) {
	d := dice(1)
	sound, wrong, behind := 0, 0, 0
	for i := range 6000 {
		w := d.thrown()
		want := wanted(w)
		pairsAre(t, w, want, "throw", i)
		for block := -1; block < 6; block++ {
			ownIs(t, w, block, want, "throw", i)
		}
		if len(want) == 0 {
			wrong++
			continue
		}
		sound++
		for _, x := range want {
			if n, _ := node.Read(w, x.block); len(slices.Compact(n.Slots)) > len(x.own) {
				behind++
			}
		}
		if i%10 == 0 {
			l, _ := amap.Pairs(w)
			putAndTaken(t, l, []string{"", "a", "b", "bb", "c", "f", "k", "z"}, "throw", i)
		}
	}
	if sound < 2000 || wrong < 1000 || behind < 1000 {
		t.Errorf("%d, %d, %d", sound, wrong, behind)
	}
}

// P12.3: keys of all pairs rise, each there once, and are those of Own, leaf by leaf.
func TestLeafByLeaf(t *testing.T) {
	arenas := append(samples(), many(256, 128), many(40, 3))
	for i, x := range arenas {
		leaves, _ := arena.Leaves(x.words)
		var owns []api.Pair
		for _, block := range leaves {
			l, e := amap.Own(x.words, block)
			if e != api.OK {
				t.Fatalf("row %d: Own of %d: %v", i, block, e)
			}
			owns = append(owns, l...)
		}
		l, e := amap.Pairs(x.words)
		if !slices.Equal(l, owns) || e != api.OK || !rises(l) {
			t.Fatalf("row %d: %q, %v, not %q", i, l, e, owns)
		}
		putAndTaken(t, l, []string{"", "\x00", "a", "b", "f", "k", "kk", "m", "m\x00", "t", "zz", strings.Repeat("\xff", 21), strings.Repeat("z", 40)}, "row", i)
	}
}

// wantGet, wantWithout, and wantWith are the document's sentences on pairs.
func wantGet(l []api.Pair, key string) (string, bool) {
	val, ok := "", false
	for i := range l {
		if p := l[len(l)-1-i]; p.Key == key {
			val, ok = p.Val, true
		}
	}
	return val, ok
}

func wantWithout(l []api.Pair, key string) []api.Pair {
	var out []api.Pair
	for _, p := range l {
		if p.Key != key {
			out = append(out, p)
		}
	}
	return out
}

func wantWith(l []api.Pair, key, val string) []api.Pair {
	var out []api.Pair
	done := false
	for _, p := range wantWithout(l, key) {
		if !done && strings.Compare(p.Key, key) > 0 {
			out, done = append(out, api.Pair{Key: key, Val: val}), true
		}
		out = append(out, p)
	}
	if !done {
		out = append(out, api.Pair{Key: key, Val: val})
	}
	return out
}

// P12.2: written out.
func TestGetWithWithout(t *testing.T) {
	for i, c := range []struct {
		l             []api.Pair
		key           string
		val           string
		ok            bool
		with, without []api.Pair
	}{
		{nil, "a", "", false, list("a:new"), nil},
		{nil, "", "", false, list(":new"), nil},
		{list("b:1"), "b", "1", true, list("b:new"), nil},
		{list("b:1", "b:2"), "b", "1", true, list("b:new"), nil},
		{list("b:1"), "a", "", false, list("a:new", "b:1"), list("b:1")},
		{list("b:1"), "c", "", false, list("b:1", "c:new"), list("b:1")},
		{list("b:1", "d:2"), "a", "", false, list("a:new", "b:1", "d:2"), list("b:1", "d:2")},
		{list("b:1", "d:2"), "c", "", false, list("b:1", "c:new", "d:2"), list("b:1", "d:2")},
		{list("b:1", "d:2"), "e", "", false, list("b:1", "d:2", "e:new"), list("b:1", "d:2")},
		{list("b:1", "d:2"), "b", "1", true, list("b:new", "d:2"), list("d:2")},
		{list("b:1", "d:2"), "d", "2", true, list("b:1", "d:new"), list("b:1")},
		{list("b:1", "c:2", "d:3"), "c", "2", true, list("b:1", "c:new", "d:3"), list("b:1", "d:3")},
		// A value that is empty is one.
		{list("b", "d:2"), "b", "", true, list("b:new", "d:2"), list("d:2")},
		{list("b:1", "d"), "d", "", true, list("b:1", "d:new"), list("b:1")},
		{list("b"), "b", "", true, list("b:new"), nil},
		// Twice, side by side and not, with unlike values.
		{list("b:1", "b:2", "d:3"), "b", "1", true, list("b:new", "d:3"), list("d:3")},
		{list("b:2", "b:1", "d:3"), "b", "2", true, list("b:new", "d:3"), list("d:3")},
		{list("b", "b:1", "d:3"), "b", "", true, list("b:new", "d:3"), list("d:3")},
		{list("b:1", "d:3", "b:2"), "b", "1", true, list("b:new", "d:3"), list("d:3")},
		{list("a:0", "d:1", "d:3", "e:4"), "d", "1", true, list("a:0", "d:new", "e:4"), list("a:0", "e:4")},
		{list("d:1", "a:0", "d:3", "d:5", "e:4"), "d", "1", true, list("a:0", "d:new", "e:4"), list("a:0", "e:4")},
		// The empty key stands ahead of all others.
		{list("b:1"), "", "", false, list(":new", "b:1"), list("b:1")},
		{list(":1", "b:2"), "", "1", true, list(":new", "b:2"), list("b:2")},
		{list(":1", ":2"), "", "1", true, list(":new"), nil},
		{list("b:1", ":2"), "", "2", true, list(":new", "b:1"), list("b:1")},
		{list(":1", "b:2"), "a", "", false, list(":1", "a:new", "b:2"), list(":1", "b:2")},
		// Keys that do not rise: it goes ahead of the first one that stands behind it.
		{list("d:1", "b:2"), "c", "", false, list("c:new", "d:1", "b:2"), list("d:1", "b:2")},
		{list("a:1", "d:2", "b:3", "e:4"), "c", "", false, list("a:1", "c:new", "d:2", "b:3", "e:4"), list("a:1", "d:2", "b:3", "e:4")},
		{list("b:1", "a:2", "b:3"), "c", "", false, list("b:1", "a:2", "b:3", "c:new"), list("b:1", "a:2", "b:3")},
		{list("e:1", "c:2", "a:3"), "c", "2", true, list("c:new", "e:1", "a:3"), list("e:1", "a:3")},
		{list("a:1", "c:2", "e:3", "b:4"), "e", "3", true, list("a:1", "c:2", "b:4", "e:new"), list("a:1", "c:2", "b:4")},
		{list("d:1", "d:2", "b:3", "b:4"), "c", "", false, list("c:new", "d:1", "d:2", "b:3", "b:4"), list("d:1", "d:2", "b:3", "b:4")},
		// What another key begins with stands ahead of it; keys stand byte by byte.
		{list("aa:1", "ab:2"), "a", "", false, list("a:new", "aa:1", "ab:2"), list("aa:1", "ab:2")},
		{list("a:1", "ab:2"), "aa", "", false, list("a:1", "aa:new", "ab:2"), list("a:1", "ab:2")},
		{list("a:1", "a\x00:2"), "a\x00", "2", true, list("a:1", "a\x00:new"), list("a:1")},
		{list("A:1", "z:2"), "a", "", false, list("A:1", "a:new", "z:2"), list("A:1", "z:2")},
		{list("\x7f:1", "\xff:2"), "\x80", "", false, list("\x7f:1", "\x80:new", "\xff:2"), list("\x7f:1", "\xff:2")},
		{list("é:1", "\xff:2"), "\xc3", "", false, list("\xc3:new", "é:1", "\xff:2"), list("é:1", "\xff:2")},
		{list("10:1", "9:2"), "2", "", false, list("10:1", "2:new", "9:2"), list("10:1", "9:2")},
	} {
		val, ok := amap.Get(c.l, c.key)
		with := amap.With(c.l, c.key, "new")
		without := amap.Without(c.l, c.key)
		if val != c.val || ok != c.ok || !slices.Equal(with, c.with) || !slices.Equal(without, c.without) {
			t.Errorf("row %d: %q, %v, %q, %q", i, val, ok, with, without)
		}
		tells(t, c.l, c.key, "new", "row", i)
		tells(t, c.l, c.key, "", "row", i)
	}
}

// tells holds all that is told of pairs and a key against the document's sentences.
func tells(t *testing.T, l []api.Pair, key, val string, what ...any) {
	t.Helper()
	v, ok := wantGet(l, key)
	if a, b := amap.Get(l, key); a != v || b != ok {
		t.Fatalf("%v: Get of %q, %q: %q, %v", what, key, l, a, b)
	}
	if a, b := amap.Without(l, key), wantWithout(l, key); !slices.Equal(a, b) {
		t.Fatalf("%v: Without of %q, %q: %q, not %q", what, key, l, a, b)
	}
	if a, b := amap.With(l, key, val), wantWith(l, key, val); !slices.Equal(a, b) {
		t.Fatalf("%v: With of %q, %q: %q, not %q", what, key, l, a, b)
	}
}

// lists hands out all lists of up to so many pairs of some keys, each with a value of its own, but for some of them.
func lists(most int, keys []string, each func([]api.Pair)) {
	var more func(l []api.Pair)
	more = func(l []api.Pair) {
		each(l)
		if len(l) == most {
			return
		}
		for i, key := range keys {
			val := strconv.Itoa(len(l))
			if (i+len(l))%4 == 0 {
				val = ""
			}
			more(append(slices.Clone(l), api.Pair{Key: key, Val: val}))
		}
	}
	more(nil)
}

// P12.2, P12.3: all lists of up to five pairs of four keys, those that rise, and those that don't, with keys that are there, between these, and beside them.
func TestAllLists(t *testing.T) {
	n := 0
	lists(5, []string{"", "b", "d", "f"}, func(l []api.Pair) {
		n++
		for _, key := range []string{"", "a", "b", "c", "d", "e", "f", "g"} {
			tells(t, l, key, "new")
			tells(t, l, key, "")
		}
		putAndTaken(t, l, []string{"", "a", "b", "c", "d", "e", "f", "g"})
	})
	if n != 1365 {
		t.Errorf("%d", n)
	}
}

// putAndTaken puts pairs, and takes them away, each key of some: it is there then, or not, all other keys have what they had, and keys that rise, rise still.
func putAndTaken(t *testing.T, l []api.Pair, keys []string, what ...any) {
	t.Helper()
	inOrder := func(l []api.Pair) bool {
		return slices.IsSortedFunc(l, func(a, b api.Pair) int { return strings.Compare(a.Key, b.Key) })
	}
	for _, key := range keys {
		with := amap.With(l, key, "put")
		without := amap.Without(with, key)
		if v, ok := amap.Get(with, key); v != "put" || !ok {
			t.Fatalf("%v: %q put into %q: %q, %v", what, key, l, v, ok)
		}
		if v, ok := amap.Get(without, key); v != "" || ok {
			t.Fatalf("%v: %q taken from %q: %q, %v", what, key, with, v, ok)
		}
		for _, p := range slices.Concat(l, list("a", "c", "e")) {
			v, ok := amap.Get(l, p.Key)
			a, b := amap.Get(with, p.Key)
			c, d := amap.Get(without, p.Key)
			if p.Key != key && (a != v || b != ok || c != v || d != ok) {
				t.Fatalf("%v: %q put into %q: %q has %q, %v, and %q, %v", what, key, l, p.Key, a, b, c, d)
			}
		}
		if inOrder(l) && (!inOrder(with) || !inOrder(without)) {
			t.Fatalf("%v: %q put into %q: %q, %q", what, key, l, with, without)
		}
		if !slices.Equal(without, amap.Without(l, key)) || !slices.Equal(amap.With(with, key, "put"), with) && inOrder(l) {
			t.Fatalf("%v: %q put into %q, and taken: %q, %q", what, key, l, with, without)
		}
		if rises(l) && key != "" && !rises(with) {
			t.Fatalf("%v: %q put into %q: %q", what, key, l, with)
		}
	}
}

// P12.3: whatever is put and taken away, in whatever order, is as of a list that is looked through each time.
func TestRow(t *testing.T) {
	d := dice(2)
	for i := range 300 {
		var l []api.Pair
		has := map[string]string{}
		for j := range 60 {
			key := strings.Repeat("k", d.below(3)) + strconv.Itoa(d.below(12))
			if d.below(3) == 0 {
				l = amap.Without(l, key)
				delete(has, key)
			} else {
				val := strings.Repeat("v", d.below(4))
				l = amap.With(l, key, val)
				has[key] = val
			}
			if !rises(l) || len(l) != len(has) {
				t.Fatalf("row %d, %d: %q, not %q", i, j, l, has)
			}
			for key, val := range has {
				if v, ok := amap.Get(l, key); v != val || !ok {
					t.Fatalf("row %d, %d: %q has %q, %v, not %q", i, j, key, v, ok, val)
				}
			}
		}
	}
}

// P12.2: any pairs and texts: such as may be no keys, long ones, and bytes that are no runes.
func TestAnyTexts(t *testing.T) {
	long := strings.Repeat("x", 100000)
	texts := []string{"", "\x00", "\x00\x00", "a", ":", "\xff", "\xff\xfe", "\xc3\x28", "é", strings.Repeat("a", 21), strings.Repeat("a", 22), long, long + "y"}
	var l []api.Pair
	for i := range 2000 {
		l = append(l, api.Pair{Key: texts[i*7%len(texts)], Val: texts[i*5%len(texts)]})
	}
	for _, key := range texts {
		for n := range 40 {
			tells(t, l[:n], key, texts[n%len(texts)])
		}
		tells(t, l, key, key)
		putAndTaken(t, l[:12], []string{key})
	}
}

// P12.1: whatever words there are, short and long ones, something is told.
func TestWhatever(t *testing.T) {
	d := dice(3)
	for _, n := range []int{0, 1, 2, 3, 4, 15, 16, 17, 31, 32, 33, 47, 48, 100, 4080, 4095, 4096, 4097, 4112, 5000, 70000} {
		for _, x := range []int{0, 1, 2, -1, 7015, 1 << 60, 1<<60 + 1, math.MaxInt, math.MinInt} {
			w := slices.Repeat([]int{x}, n)
			lookAt(t, w, n, x)
			copy(w, []int{7015, n / 16, sum.Of([]int{7015, n / 16}), 1, 0, 0, 0, 0, 0, 0, 0, 0, 0, 0, 0, 0})
			lookAt(t, w, n, x)
		}
		for range 100 {
			w := make([]int, n)
			for at := range w {
				w[at] = []int{0, 0, 1, 2, 3, 1 << 60, 1<<60 + 1, 7015, -1, d.below(256), math.MinInt}[d.below(11)]
			}
			if n >= 32 {
				copy(w, built(max(2, n/16), 1, laid{1, leaf(d.below(5), 0)})[:32])
			}
			lookAt(t, w, n)
		}
	}
}

// lookAt holds what is told of words, and of some blocks, against the document's sentences.
func lookAt(t *testing.T, w []int, what ...any) {
	t.Helper()
	want := wanted(w)
	pairsAre(t, w, want, what...)
	for _, block := range []int{-1, 0, 1, 2, len(w)/16 - 1, len(w) / 16, math.MaxInt, math.MinInt} {
		ownIs(t, w, block, want, what...)
	}
}

// spoil writes over a list and its spare room.
func spoil[T any](l []T, x T) {
	l = l[:cap(l)]
	for i := range l {
		l[i] = x
	}
}

// withRoom is l with spare room behind it, and whether both are as they were.
func withRoom[T comparable](l []T, more ...T) ([]T, func() bool) {
	room := slices.Concat(l, more)
	was := slices.Clone(room)
	return room[:len(l)], func() bool { return slices.Equal(room, was) }
}

// R4, R5: words that are handed in stay as they were, their spare room too, nothing hangs on that room, and what is told is new each time.
func TestWordsStay(t *testing.T) {
	arenas := append(samples(), sample{words: nil}, sample{words: []int{7015}}, sample{words: with(laid{1, leaf(9, 0, 3, 2)})}, sample{words: with()[:19*16]})
	for i, x := range arenas {
		w, stays := withRoom(x.words, with()[16:64]...)
		are(t, w, x.leaves, "row", i)
		l, _ := amap.Pairs(w)
		more, _ := amap.Pairs(w)
		spoil(more, api.Pair{Key: "spoilt", Val: "spoilt"})
		var owns [][]api.Pair
		for _, y := range x.leaves {
			own, _ := amap.Own(w, y.block)
			more, _ := amap.Own(w, y.block)
			spoil(more, api.Pair{Key: "spoilt", Val: "spoilt"})
			owns = append(owns, own)
		}
		if !stays() {
			t.Fatalf("row %d was changed", i)
		}
		are(t, w, x.leaves, "row", i)
		spoil(w, -5)
		if !slices.Equal(l, all(x.leaves)) {
			t.Fatalf("row %d: %q is shared", i, l)
		}
		for j, own := range owns {
			if !slices.Equal(own, x.leaves[j].own) {
				t.Fatalf("row %d: %q is shared", i, own)
			}
		}
	}
}

// R4, R5: pairs that are handed in stay as they were, their spare room too, nothing hangs on that room, and what is told is new each time.
func TestPairsStay(t *testing.T) {
	keys := []string{"", "a", "b", "c", "d", "e"}
	lists(4, []string{"b", "d", "d"}, func(was []api.Pair) {
		for _, key := range keys {
			l, stays := withRoom(was, list("a:room", "b:room", "c:room", "d:room", "e:room", ":room")...)
			tells(t, l, key, "new", "with room")
			with, without := amap.With(l, key, "new"), amap.Without(l, key)
			moreWith, moreWithout := amap.With(l, key, "new"), amap.Without(l, key)
			if !stays() {
				t.Fatalf("%q: %q was changed", key, was)
			}
			spoil(moreWith, api.Pair{Key: "spoilt", Val: "spoilt"})
			spoil(moreWithout, api.Pair{Key: "spoilt", Val: "spoilt"})
			if !stays() {
				t.Fatalf("%q: %q is shared", key, was)
			}
			spoil(l, api.Pair{Key: "spoilt", Val: "spoilt"})
			if !slices.Equal(with, wantWith(was, key, "new")) || !slices.Equal(without, wantWithout(was, key)) {
				t.Fatalf("%q: of %q: %q, %q are shared", key, was, with, without)
			}
		}
	})
}
