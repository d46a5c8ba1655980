package seek_test

import (
	"fmt"
	"math"
	"slices"
	"strconv"
	"strings"
	"testing"

	"lamplighter/api"
	"lamplighter/fast"
	"lamplighter/micro"
	"lamplighter/node"
	"lamplighter/pmem"
	"lamplighter/rec"
	"lamplighter/seek"
)

// pair is a record of a pair, from one that leads to a node.
func pair(key, val string) api.Rec       { return api.Rec{Kind: api.RPair, Key: key, Val: val} }
func from(key string, child int) api.Rec { return api.Rec{Kind: api.RNode, Key: key, Child: child} }

// of is a node of a Turn, with slots.
func of(turn int, slots ...int) api.Node { return api.Node{Turn: turn, Slots: slots} }

// lay lays a record, a node, or words, into a block.
func lay(w []int, block int, what any) {
	var l []int
	e := api.ErrArg
	switch x := what.(type) {
	case api.Rec:
		l, e = rec.Words(x)
	case api.Node:
		l, e = node.Words(x)
	case []int:
		l, e = x, api.OK
	}
	if e != api.OK || len(w) < 16*block+16 {
		panic("what is to be laid may not be: " + strconv.Itoa(block))
	}
	copy(w[16*block:], l)
}

// built are words of so many blocks, with what is laid into them from a block on.
func built(blocks, first int, l ...any) []int {
	w := make([]int, 16*blocks)
	for i, x := range l {
		lay(w, first+i, x)
	}
	return w
}

// same tells whether two looks are one and the same.
func same(a, b api.Seek) bool {
	return a.Block == b.Block && a.Turn == b.Turn && a.At == b.At && slices.Equal(a.Refs, b.Refs) && a.Over == b.Over
}

// isEmpty tells whether a look has nothing.
func isEmpty(s api.Seek) bool { return same(s, api.Seek{}) }

// far are numbers that no block, no slot and hardly anything else has.
func far() []int {
	return []int{math.MinInt, math.MinInt + 1, math.MinInt + 16, math.MinInt / 16, -1 << 60, 1 - 1<<60, -1 << 32, -4096, -256, -255, -16, -13, -12, -1, 13, 14, 16, 256, 257, 4096, 1 << 28, 1 << 32, 1<<32 + 1, 1 << 59, 1 << 60, 1<<60 + 1, 1<<60 + 3, 1 << 61, math.MaxInt / 16, math.MaxInt/16 + 1, math.MaxInt - 1, math.MaxInt}
}

// isUp tells whether a Turn is even.
func isUp(turn int) bool { return turn&1 == 0 }

// wantBegin are the document's sentences on a look that begins.
func wantBegin(w []int, block int) (api.Seek, api.Errno) {
	n, e := node.Read(w, block)
	if block > 255 || e != api.OK {
		return api.Seek{}, 90
	}
	if isUp(n.Turn) {
		return api.Seek{Block: block, Turn: n.Turn, At: 0}, 0
	}
	return api.Seek{Block: block, Turn: n.Turn, At: 12}, 0
}

// wantStep are the document's sentences on a step of a look.
func wantStep(words []int, s api.Seek) api.Seek {
	switch {
	case s.Over, s.Block < 0, s.Block > 255, s.At < 0, s.At > 12, len(words) < 16*s.Block+16:
		return s
	}
	w := words[16*s.Block+3+s.At]
	refs := append([]int{}, s.Refs...)
	if w > 0 {
		if len(refs) == 0 {
			refs = []int{w}
		} else if refs[len(refs)-1] != w {
			refs = append(refs, w)
		}
	}
	s.Refs = refs
	switch {
	case isUp(s.Turn) && s.At == 12, !isUp(s.Turn) && s.At == 0, isUp(s.Turn) && w <= 0:
		s.Over = true
	case isUp(s.Turn):
		s.At++
	default:
		s.At--
	}
	return s
}

// wantHolds is the document's sentence on a look that holds.
func wantHolds(w []int, s api.Seek) bool {
	n, e := node.Read(w, s.Block)
	if e != api.OK {
		return false
	}
	return n.Turn == s.Turn
}

// wantHits is the document's sentence on what was hit: each record that no other one of its key is ahead of has its place by how many of them have lower keys.
func wantHits(w []int, s api.Seek) []api.Rec {
	var firsts []api.Rec
	for _, ref := range s.Refs {
		x, e := rec.Read(w, ref)
		if e == api.OK && !slices.ContainsFunc(firsts, func(y api.Rec) bool { return y.Key == x.Key }) {
			firsts = append(firsts, x)
		}
	}
	out := make([]api.Rec, len(firsts))
	for _, x := range firsts {
		lower := 0
		for _, y := range firsts {
			if strings.Compare(y.Key, x.Key) < 0 {
				lower++
			}
		}
		out[lower] = x
	}
	return out
}

// begins holds Begin against the document's sentences.
func begins(t *testing.T, w []int, block int, what ...any) {
	t.Helper()
	want, e := wantBegin(w, block)
	if s, f := seek.Begin(w, block); !same(s, want) || f != e {
		t.Fatalf("%v: Begin at %d: %+v, %v, not %+v, %v", what, block, s, f, want, e)
	}
}

// goesOn holds all that is told of a look against the document's sentences.
func goesOn(t *testing.T, w []int, s api.Seek, what ...any) {
	t.Helper()
	want := wantStep(w, s)
	if x := seek.Step(w, s); !same(x, want) {
		t.Fatalf("%v: Step of %+v: %+v, not %+v", what, s, x, want)
	}
	if x := seek.Holds(w, s); x != wantHolds(w, s) {
		t.Fatalf("%v: Holds of %+v: %v", what, s, x)
	}
	if x := seek.Hits(w, s); !slices.Equal(x, wantHits(w, s)) {
		t.Fatalf("%v: Hits of %+v: %+v, not %+v", what, s, x, wantHits(w, s))
	}
}

// through goes through a node from a look on, and tells what it is when it is over, and how many steps that took.
func through(t *testing.T, w []int, s api.Seek) (api.Seek, int) {
	t.Helper()
	for n := range 15 {
		if s.Over {
			return s, n
		}
		goesOn(t, w, s)
		s = seek.Step(w, s)
	}
	t.Fatalf("it goes on and on: %+v", s)
	return s, 0
}

// P13.1: where looks begin, written out.
func TestBegin(t *testing.T) {
	full := []int{1, 2, 3, 4, 5, 6, 7, 8, 9, 10, 11, 12, 13}
	for i, n := range []api.Node{
		of(0), of(0, 5), of(0, full...), of(0, 5, 5, 6), of(0, 7, 7), of(2, 5), of(16, 200), of(api.MaxTurn, full...), of(api.MaxTurn), of(api.MaxTurn-2, 9),
		{Level: 9, Turn: 4, Next: 255, Low: 255, Slots: []int{255}}, {Level: 1, Turn: 2},
		of(1), of(1, 5), of(1, full...), of(1, 5, 5, 6), of(1, 7, 7), of(3, 5), of(17, 200), of(api.MaxTurn-1, full...), of(api.MaxTurn - 1),
		{Level: 9, Turn: 5, Next: 255, Low: 255, Slots: []int{255}}, {Level: 1, Turn: 3},
	} {
		at := 0
		if i >= 12 {
			at = 12
		}
		for _, block := range []int{0, 1, 2, 127, 254, 255} {
			w := built(block+1, block, n)
			s, e := seek.Begin(w, block)
			if e != api.OK || !same(s, api.Seek{Block: block, Turn: n.Turn, At: at}) {
				t.Errorf("row %d at %d: %+v, %v", i, block, s, e)
			}
			begins(t, append(w, w...), block, i)
		}
	}
}

// P13.1: where no look begins, written out: a block above MaxBlocks - 1, below 0, of no node, of a record, and one that words have only in part.
func TestNoBegin(t *testing.T) {
	n := of(2, 5, 6)
	high := built(258, 254, n, n, n, n)
	some := built(5, 0, n, pair("a", "b"), from("c", 3), n)
	for i, c := range []struct {
		w     []int
		block int
	}{
		{high, 256}, {high, 257}, {high, 258}, {high[:256*16], 256}, {high, 253}, {high, 0},
		{some, 1}, {some, 2}, {some, 4}, {some, 5}, {some, 6}, {some, 255}, {some, 256},
		{some[:16*4-1], 3}, {some[:16*3+1], 3}, {some[:16*3], 3}, {some[:15], 0}, {some[:1], 0}, {nil, 0}, {[]int{}, 0}, {nil, 1}, {nil, -1},
		{some, -1}, {some, -16}, {some, math.MinInt}, {some, math.MinInt + 3}, {some, 3 - 1<<60}, {some, -1 << 60},
		{some, 1 << 60}, {some, 1<<60 + 3}, {some, 1 << 32}, {some, 1<<32 + 3}, {some, math.MaxInt}, {some, math.MaxInt - 15},
		// Words that are a node's, but for one.
		{changed(some, 0, 0), 0}, {changed(some, 0, 1<<60+10), 0}, {changed(some, 1, 256), 0}, {changed(some, 2, -1), 0}, {changed(some, 3, 0), 0}, {changed(some, 4, 256), 0}, {changed(some, 4, -6), 0}, {changed(some, 15, 1), 0},
		{changed(some, 0, 1<<60+16*(1<<40+1)), 0}, {changed(some, 0, 1<<60-16), 0},
	} {
		if s, e := seek.Begin(c.w, c.block); !isEmpty(s) || e != api.ErrNode {
			t.Errorf("row %d: %+v, %v", i, s, e)
		}
		begins(t, c.w, c.block, i)
	}
	for _, block := range []int{254, 255} {
		if s, e := seek.Begin(high, block); !same(s, api.Seek{Block: block, Turn: 2}) || e != api.OK {
			t.Errorf("%d: %+v, %v", block, s, e)
		}
	}
}

// changed are words of which one is another one.
func changed(w []int, at, val int) []int {
	w = slices.Clone(w)
	w[at] = val
	return w
}

// P13.2: the examples of the chapter, and other looks from the beginning to the end, written out, with how many steps they take.
func TestThrough(t *testing.T) {
	full := []int{1, 2, 3, 4, 5, 6, 7, 8, 9, 10, 11, 12, 13}
	back := []int{13, 12, 11, 10, 9, 8, 7, 6, 5, 4, 3, 2, 1}
	for i, c := range []struct {
		turn        int
		slots, refs []int
		steps       int
	}{
		{0, []int{5, 5, 6}, []int{5, 6}, 4}, {1, []int{5, 5, 6}, []int{6, 5}, 13},
		{0, nil, nil, 1}, {1, nil, nil, 13}, {0, []int{9}, []int{9}, 2}, {1, []int{9}, []int{9}, 13},
		{2, full, full, 13}, {3, full, back, 13}, {api.MaxTurn, full[:12], full[:12], 13}, {api.MaxTurn - 1, full[:12], back[1:], 13},
		{4, full[:5], full[:5], 6}, {5, full[:5], back[8:], 13}, {4, full[:6], full[:6], 7}, {5, full[:6], back[7:], 13},
		{6, []int{7, 7, 7}, []int{7}, 4}, {7, []int{7, 7, 7}, []int{7}, 13},
		{6, slices.Repeat([]int{7}, 13), []int{7}, 13}, {7, slices.Repeat([]int{7}, 13), []int{7}, 13},
		// What is seen once more, but not side by side, is told once more.
		{0, []int{7, 8, 7}, []int{7, 8, 7}, 4}, {1, []int{7, 8, 7, 8}, []int{8, 7, 8, 7}, 13}, {0, []int{7, 7, 8, 8, 7, 7}, []int{7, 8, 7}, 7},
		// It need not be a record's block.
		{0, []int{255, 1, 254}, []int{255, 1, 254}, 4}, {1, []int{255, 1, 254}, []int{254, 1, 255}, 13},
	} {
		for _, block := range []int{0, 3, 255} {
			w := built(block+1, block, of(c.turn, c.slots...))
			s, _ := seek.Begin(w, block)
			s, n := through(t, w, s)
			at := 0
			if isUp(c.turn) {
				at = min(12, len(c.slots))
			}
			if !same(s, api.Seek{Block: block, Turn: c.turn, At: at, Refs: c.refs, Over: true}) || n != c.steps || !seek.Holds(w, s) {
				t.Errorf("row %d at %d: %+v, %d", i, block, s, n)
			}
			if x := seek.Step(w, s); !same(x, s) {
				t.Errorf("row %d at %d: behind its end: %+v", i, block, x)
			}
		}
	}
}

// P13.2: steps up and down, written out: the word of the next slot, what was seen ahead, what is seen then, where it goes on, and whether it is over.
func TestStep(t *testing.T) {
	for i, c := range []struct {
		turn, at, word int
		refs, want     []int
		next           int
		over           bool
	}{
		// Up: above 0, 0, below 0, the last one, one that is not the last one.
		{0, 0, 9, nil, []int{9}, 1, false}, {0, 0, 9, []int{}, []int{9}, 1, false}, {0, 4, 9, []int{8}, []int{8, 9}, 5, false}, {2, 5, 1, []int{8, 3}, []int{8, 3, 1}, 6, false}, {2, 11, 255, []int{8}, []int{8, 255}, 12, false},
		{0, 0, 0, nil, nil, 0, true}, {0, 3, 0, []int{8, 9}, []int{8, 9}, 3, true}, {0, 12, 0, []int{8}, []int{8}, 12, true}, {0, 3, 0, []int{8, 0}, []int{8, 0}, 3, true},
		{0, 0, -1, nil, nil, 0, true}, {0, 3, -9, []int{8, 9}, []int{8, 9}, 3, true}, {0, 12, math.MinInt, []int{8}, []int{8}, 12, true}, {0, 3, -9, []int{8, -9}, []int{8, -9}, 3, true}, {0, 3, math.MinInt, nil, nil, 3, true},
		{0, 1, 9, []int{9}, []int{9}, 2, false}, {0, 1, 9, []int{8, 9}, []int{8, 9}, 2, false}, {0, 12, 9, []int{8, 9}, []int{8, 9}, 12, true},
		{0, 2, 9, []int{9, 8}, []int{9, 8, 9}, 3, false}, {0, 2, 9, []int{9, 9, 7, 8}, []int{9, 9, 7, 8, 9}, 3, false}, {0, 12, 9, []int{9, 8}, []int{9, 8, 9}, 12, true},
		{0, 12, 9, nil, []int{9}, 12, true}, {0, 12, 9, []int{8}, []int{8, 9}, 12, true},
		// Down, likewise; it goes on at what is not above 0.
		{1, 12, 9, nil, []int{9}, 11, false}, {1, 12, 9, []int{}, []int{9}, 11, false}, {1, 5, 9, []int{8}, []int{8, 9}, 4, false}, {3, 4, 1, []int{8, 3}, []int{8, 3, 1}, 3, false}, {3, 1, 255, []int{8}, []int{8, 255}, 0, false},
		{1, 12, 0, nil, nil, 11, false}, {1, 3, 0, []int{8, 9}, []int{8, 9}, 2, false}, {1, 0, 0, []int{8}, []int{8}, 0, true}, {1, 3, 0, []int{8, 0}, []int{8, 0}, 2, false},
		{1, 12, -1, nil, nil, 11, false}, {1, 3, -9, []int{8, 9}, []int{8, 9}, 2, false}, {1, 0, math.MinInt, []int{8}, []int{8}, 0, true}, {1, 3, -9, []int{8, -9}, []int{8, -9}, 2, false},
		{1, 1, 9, []int{9}, []int{9}, 0, false}, {1, 1, 9, []int{8, 9}, []int{8, 9}, 0, false}, {1, 0, 9, []int{8, 9}, []int{8, 9}, 0, true},
		{1, 2, 9, []int{9, 8}, []int{9, 8, 9}, 1, false}, {1, 2, 9, []int{9, 9, 7, 8}, []int{9, 9, 7, 8, 9}, 1, false}, {1, 0, 9, []int{9, 8}, []int{9, 8, 9}, 0, true},
		{1, 0, 9, nil, []int{9}, 0, true}, {1, 0, 9, []int{8}, []int{8, 9}, 0, true},
		// Whatever is above 0 is seen, also what is no block, and whatever Turn there is, it is even, or not.
		{0, 7, math.MaxInt, []int{-3, 0}, []int{-3, 0, math.MaxInt}, 8, false}, {1, 7, 4096, []int{0}, []int{0, 4096}, 6, false}, {0, 7, 256, []int{256, 257}, []int{256, 257, 256}, 8, false},
		{-1, 7, 9, nil, []int{9}, 6, false}, {-2, 7, 9, nil, []int{9}, 8, false}, {math.MinInt, 7, 0, nil, nil, 7, true}, {math.MaxInt, 7, 0, nil, nil, 6, false}, {math.MinInt + 1, 0, 9, nil, []int{9}, 0, true}, {math.MaxInt - 1, 0, 9, nil, []int{9}, 1, false},
		{-3, 12, 0, nil, nil, 11, false}, {-4, 12, 9, nil, []int{9}, 12, true},
		// So many were seen that no node has as many.
		{0, 0, 9, slices.Repeat([]int{1, 2}, 20), append(slices.Repeat([]int{1, 2}, 20), 9), 1, false},
	} {
		for _, block := range []int{0, 1, 255} {
			for _, rest := range []int{0, -1, 1, 9, 1 << 60, math.MaxInt} {
				w := slices.Repeat([]int{rest}, 16*block+16)
				w[16*block+3+c.at] = c.word
				s := api.Seek{Block: block, Turn: c.turn, At: c.at, Refs: c.refs}
				want := api.Seek{Block: block, Turn: c.turn, At: c.next, Refs: c.want, Over: c.over}
				if x := seek.Step(w, s); !same(x, want) {
					t.Errorf("row %d at %d, %d: %+v, not %+v", i, block, rest, x, want)
				}
				goesOn(t, w, s, i)
				s.Over = true
				if x := seek.Step(w, s); !same(x, s) {
					t.Errorf("row %d at %d, %d: over: %+v", i, block, rest, x)
				}
			}
		}
	}
}

// P13.2: steps that leave a look as it was, written out.
func TestNoStep(t *testing.T) {
	w := built(257, 0, of(0, 5, 6), of(1, 7, 8))
	lay(w, 255, of(2, 9))
	lay(w, 256, of(2, 9))
	for i, c := range []struct {
		w []int
		s api.Seek
	}{
		{w, api.Seek{Over: true}}, {w, api.Seek{Over: true, Refs: []int{5}, At: 1}}, {w, api.Seek{Block: 1, Turn: 1, At: 12, Over: true}}, {w, api.Seek{Block: 1, Turn: 1, Over: true}}, {w, api.Seek{Block: 255, Turn: 2, Over: true}},
		{w, api.Seek{Block: -1}}, {w, api.Seek{Block: -1, Turn: 1, At: 12, Refs: []int{3}}}, {w, api.Seek{Block: math.MinInt}}, {w, api.Seek{Block: math.MinInt + 1}}, {w, api.Seek{Block: 1 - 1<<60, Turn: 1}}, {w, api.Seek{Block: -1 << 60}},
		{w, api.Seek{Block: 256, Turn: 2}}, {w, api.Seek{Block: 256, Turn: 3, At: 5}}, {w, api.Seek{Block: 257}}, {w, api.Seek{Block: 1 << 60}}, {w, api.Seek{Block: 1<<60 + 1}}, {w, api.Seek{Block: math.MaxInt, Refs: []int{1}}},
		{w[:15], api.Seek{}}, {w[:15], api.Seek{Turn: 1, At: 3, Refs: []int{4, 4}}}, {w[:31], api.Seek{Block: 1, Turn: 1, At: 0}}, {w[:31], api.Seek{Block: 1}}, {w[:17], api.Seek{Block: 1}}, {w[:16], api.Seek{Block: 1}}, {nil, api.Seek{}}, {nil, api.Seek{Refs: []int{7}}}, {w[:4095], api.Seek{Block: 255}}, {w[:32], api.Seek{Block: 255}},
		{w, api.Seek{At: -1}}, {w, api.Seek{At: -3, Turn: 1}}, {w, api.Seek{Block: 1, At: -1, Turn: 1}}, {w, api.Seek{Block: 1, At: -13}}, {w, api.Seek{At: math.MinInt}}, {w, api.Seek{At: math.MinInt, Turn: 1}},
		{w, api.Seek{At: 13}}, {w, api.Seek{At: 13, Turn: 1, Refs: []int{2, 1}}}, {w, api.Seek{At: 14}}, {w, api.Seek{At: 16}}, {w, api.Seek{At: 1 << 32}}, {w, api.Seek{At: math.MaxInt}}, {w, api.Seek{At: math.MaxInt, Turn: 1}}, {w, api.Seek{At: math.MaxInt - 2}},
	} {
		if x := seek.Step(c.w, c.s); !same(x, c.s) {
			t.Errorf("row %d: %+v, not %+v", i, x, c.s)
		}
		goesOn(t, c.w, c.s, i)
	}
	// Each of them goes on, were it not for that.
	for i, c := range []struct {
		w []int
		s api.Seek
	}{{w, api.Seek{}}, {w, api.Seek{Turn: 1, At: 12}}, {w, api.Seek{Block: 255}}, {w[:16], api.Seek{}}, {w[:32], api.Seek{Block: 1}}, {w[:4096], api.Seek{Block: 255}}} {
		if x := seek.Step(c.w, c.s); same(x, c.s) {
			t.Errorf("row %d: %+v", i, x)
		}
		goesOn(t, c.w, c.s, i)
	}
}

// P13.2: a look whose Turn is not the node's goes the way of its own, from where it is.
func TestOtherTurn(t *testing.T) {
	for _, c := range []struct {
		node, look, at int
		refs           []int
		steps          int
	}{
		{0, 1, 12, []int{6, 5}, 13}, {1, 0, 0, []int{5, 6}, 4}, {2, 0, 0, []int{5, 6}, 4}, {3, 1, 12, []int{6, 5}, 13},
		{1, 2, 1, []int{5, 6}, 3}, {0, 3, 1, []int{5}, 2}, {1, 0, 2, []int{6}, 2}, {0, 1, 2, []int{6, 5}, 3}, {1, 0, 12, nil, 1}, {0, 1, 0, []int{5}, 1}, {1, 4, 3, nil, 1},
	} {
		w := built(4, 2, of(c.node, 5, 5, 6))
		s, n := through(t, w, api.Seek{Block: 2, Turn: c.look, At: c.at})
		if !slices.Equal(s.Refs, c.refs) || n != c.steps || s.Turn != c.look || seek.Holds(w, s) {
			t.Errorf("%+v: %+v, %d", c, s, n)
		}
	}
}

// P13.2: a look goes on as words are at that time, whatever they were, or the node, ahead.
func TestAtThatTime(t *testing.T) {
	w := built(3, 1, of(0, 5, 6, 7))
	s, _ := seek.Begin(w, 1)
	s = seek.Step(w, s)
	lay(w, 1, of(1, 8, 9))
	s = seek.Step(w, s)
	// It is no node any more, and goes on.
	copy(w[16:], []int{0, -1, 300, 5, 6, 4, 3, 0, 2})
	if seek.Holds(w, s) {
		t.Errorf("%+v holds", s)
	}
	s, n := through(t, w, s)
	if !same(s, api.Seek{Block: 1, At: 4, Refs: []int{5, 9, 4, 3}, Over: true}) || n != 3 {
		t.Errorf("%+v, %d", s, n)
	}
	w = w[:17]
	if x := seek.Step(w, api.Seek{Block: 1, At: 2, Refs: []int{5}}); !same(x, api.Seek{Block: 1, At: 2, Refs: []int{5}}) {
		t.Errorf("%+v", x)
	}
}

// P13.3: looks that hold, and such as don't, written out.
func TestHolds(t *testing.T) {
	w := built(257, 0, of(0, 5), of(1), of(api.MaxTurn, 9), of(2, 7), pair("a", "b"), from("c", 1), []int{1<<60 + 32, 0, 0, 0, 5})
	lay(w, 255, of(4))
	for i, c := range []struct {
		w           []int
		block, turn int
		want        bool
	}{
		{w, 0, 0, true}, {w, 1, 1, true}, {w, 2, api.MaxTurn, true}, {w, 3, 2, true}, {w, 255, 4, true}, {w[:16], 0, 0, true}, {w[:4096], 255, 4, true},
		{w, 0, 1, false}, {w, 0, 2, false}, {w, 0, -1, false}, {w, 0, 1 << 60, false}, {w, 0, 16, false}, {w, 1, 0, false}, {w, 1, 2, false}, {w, 1, 3, false}, {w, 1, -1, false}, {w, 2, 0, false}, {w, 2, api.MaxTurn - 1, false}, {w, 2, api.MaxTurn + 1, false}, {w, 3, 0, false}, {w, 3, 4, false}, {w, 3, -2, false}, {w, 255, 2, false},
		// There is no node.
		{w, 4, 0, false}, {w, 5, 0, false}, {w, 6, 2, false}, {w, 7, 0, false}, {w, 256, 0, false}, {w, 257, 0, false}, {w, -1, 0, false}, {w, -256, 0, false}, {w[:15], 0, 0, false}, {w[:31], 1, 1, false}, {w[:4095], 255, 4, false}, {nil, 0, 0, false}, {nil, -1, 0, false}, {w, 1 << 60, 0, false}, {w, -1 << 60, 0, false}, {w, 1<<60 + 1, 1, false}, {w, math.MaxInt, 0, false}, {w, math.MinInt, 0, false},
	} {
		// How far it is, and what was seen, is nothing to it.
		for _, s := range []api.Seek{{}, {At: 12}, {At: 5, Refs: []int{5}, Over: true}, {At: -1, Refs: []int{4, 5}}, {At: math.MaxInt}} {
			s.Block, s.Turn = c.block, c.turn
			if x := seek.Holds(c.w, s); x != c.want {
				t.Errorf("row %d: %+v: %v", i, s, x)
			}
			goesOn(t, c.w, s, i)
		}
	}
}

// P13.3: a look holds till its node is turned, and not again when it is turned back.
func TestTurned(t *testing.T) {
	for _, turn := range []int{0, 1, 2, 7, api.MaxTurn - 2, api.MaxTurn - 1, api.MaxTurn} {
		n := of(turn, 5, 6)
		w := built(2, 1, n)
		s, _ := seek.Begin(w, 1)
		for i := range 4 {
			if seek.Holds(w, s) != (i == 0) {
				t.Errorf("%d, turned %d times: %v", turn, i, i != 0)
			}
			n, _ := node.Read(w, 1)
			for _, m := range node.Turn(1, n, isUp(n.Turn)) {
				store(w, m)
			}
		}
	}
}

// P13.3: what was hit, written out.
func TestHits(t *testing.T) {
	w := built(257, 1,
		pair("b", "1"), pair("a", ""), pair("b", "2"), from("", 9), from("b", 3), pair("c", "3"), of(0, 1), // 1 to 7
		pair("B", "4"), pair("\x00", "5"), pair("\xff", "6"), pair("b\x00", "7"), pair("10", "8"), pair("9", "9"), from("c", 200), pair("é", "10")) // 8 to 15
	lay(w, 255, pair("z", "26"))
	w[16*20], w[16*21+3] = 1, 97
	for i, c := range []struct {
		refs []int
		want []api.Rec
	}{
		{nil, nil}, {[]int{}, nil}, {[]int{1}, []api.Rec{pair("b", "1")}}, {[]int{255}, []api.Rec{pair("z", "26")}}, {[]int{4}, []api.Rec{from("", 9)}},
		// No records' blocks: the first one, a node's, empty ones, such as are none quite, above all words, below 0, far off.
		{[]int{0}, nil}, {[]int{7}, nil}, {[]int{16, 17, 254}, nil}, {[]int{20, 21}, nil}, {[]int{256, 257, 300, 4096}, nil}, {[]int{-1, -255, -256}, nil},
		{[]int{math.MinInt, math.MinInt + 1, -1 << 60, 1 - 1<<60, 1 << 60, 1<<60 + 1, 1<<32 + 1, math.MaxInt}, nil},
		{[]int{0, 2, 7, -1, 1, 257, 1<<60 + 6, 0}, []api.Rec{pair("a", ""), pair("b", "1")}},
		// Of two of one Key the first one of Refs counts, whichever block is the lower one, of whichever kind, and however far off.
		{[]int{1, 3}, []api.Rec{pair("b", "1")}}, {[]int{3, 1}, []api.Rec{pair("b", "2")}}, {[]int{3, 1, 5}, []api.Rec{pair("b", "2")}}, {[]int{5, 3, 1}, []api.Rec{from("b", 3)}}, {[]int{1, 5}, []api.Rec{pair("b", "1")}},
		{[]int{1, 1}, []api.Rec{pair("b", "1")}}, {[]int{1, 1, 2, 2}, []api.Rec{pair("a", ""), pair("b", "1")}}, {[]int{3, 2, 6, 1}, []api.Rec{pair("a", ""), pair("b", "2"), pair("c", "3")}}, {[]int{1, 2, 6, 3}, []api.Rec{pair("a", ""), pair("b", "1"), pair("c", "3")}},
		{[]int{14, 3, 6, 1}, []api.Rec{pair("b", "2"), from("c", 200)}}, {[]int{6, 1, 14, 5}, []api.Rec{pair("b", "1"), pair("c", "3")}}, {[]int{0, 3, -1, 1}, []api.Rec{pair("b", "2")}},
		// Keys do not rise in Refs; they do byte by byte, and the empty one is ahead of all.
		{[]int{6, 1, 2}, []api.Rec{pair("a", ""), pair("b", "1"), pair("c", "3")}}, {[]int{2, 1, 6}, []api.Rec{pair("a", ""), pair("b", "1"), pair("c", "3")}}, {[]int{1, 6, 2}, []api.Rec{pair("a", ""), pair("b", "1"), pair("c", "3")}},
		{[]int{1, 4}, []api.Rec{from("", 9), pair("b", "1")}}, {[]int{1, 9, 4}, []api.Rec{from("", 9), pair("\x00", "5"), pair("b", "1")}}, {[]int{1, 8}, []api.Rec{pair("B", "4"), pair("b", "1")}},
		{[]int{10, 15, 6, 11, 1, 13, 12, 8, 9}, []api.Rec{pair("\x00", "5"), pair("10", "8"), pair("9", "9"), pair("B", "4"), pair("b", "1"), pair("b\x00", "7"), pair("c", "3"), pair("é", "10"), pair("\xff", "6")}},
		{[]int{11, 1}, []api.Rec{pair("b", "1"), pair("b\x00", "7")}}, {[]int{14, 5, 4, 2}, []api.Rec{from("", 9), pair("a", ""), from("b", 3), from("c", 200)}},
	} {
		// Where it is, and whether there is a node, is nothing to it.
		for _, s := range []api.Seek{{}, {Block: 7}, {Block: -1, Turn: -1, At: 77, Over: true}, {Block: math.MaxInt, At: 12, Turn: 1}} {
			s.Refs = c.refs
			if l := seek.Hits(w, s); !slices.Equal(l, c.want) {
				t.Errorf("row %d: %+v, not %+v", i, l, c.want)
			}
			goesOn(t, w, s, i)
		}
	}
}

// P13.3: all lists of up to five of some records, and of what is none.
func TestAllRefs(t *testing.T) {
	w := built(8, 0, of(0, 1, 2), pair("b", "1"), pair("a", "2"), pair("b", "3"), from("a", 3), pair("c", ""), from("", 6))
	n := 0
	var more func(refs []int)
	more = func(refs []int) {
		n++
		if l, want := seek.Hits(w, api.Seek{Refs: refs}), wantHits(w, api.Seek{Refs: refs}); !slices.Equal(l, want) {
			t.Fatalf("%v: %+v, not %+v", refs, l, want)
		}
		if len(refs) == 5 {
			return
		}
		for ref := range 8 {
			more(append(slices.Clone(refs), ref))
		}
	}
	more(nil)
	if n != 37449 {
		t.Errorf("%d", n)
	}
}

// P13.3: many more were seen than a node has.
func TestManyHits(t *testing.T) {
	var l []any
	var refs []int
	var want []api.Rec
	for i := range 255 {
		x := pair("k"+strconv.Itoa(1000+i*7%255), strconv.Itoa(i))
		l = append(l, x)
		want = append(want, x)
		refs = append(refs, i, 255-i, i)
	}
	w := built(255, 0, l...)
	slices.SortFunc(want, func(a, b api.Rec) int { return strings.Compare(a.Key, b.Key) })
	for range 3 {
		if x := seek.Hits(w, api.Seek{Refs: refs}); !slices.Equal(x, want) {
			t.Fatalf("%+v, not %+v", x, want)
		}
	}
}

// P13.1, P13.2, P13.3: all that slots, Turns, places, blocks and what was seen can be, beside each other, on words of all lengths up to three blocks, and around MaxBlocks.
func TestAllLooks(t *testing.T) {
	const block = 1
	slots := []int{math.MinInt, -1, 0, 1, 2, 3, 255, 256, math.MaxInt}
	refs := [][]int{nil, {1}, {2}, {1, 2}, {2, 1}, {1, 1}, {0}, {-1}, {3, 255, 3}, {math.MaxInt}, {256, math.MinInt}}
	turns := []int{0, 1, 2, 3, -1, -2, api.MaxTurn, math.MaxInt, math.MinInt}
	for at := -2; at <= 15; at++ {
		for _, word := range slots {
			for _, turn := range turns {
				w := built(4, 0, of(turn&7, 2, 3), of(0, 1, 2, 3), pair("a", "b"))
				if at >= 0 && at < 13 {
					w[16*block+3+at] = word
				}
				for _, r := range refs {
					for _, over := range []bool{false, true} {
						goesOn(t, w, api.Seek{Block: block, Turn: turn, At: at, Refs: r, Over: over})
					}
				}
			}
		}
	}
	w := built(258, 0, of(0, 1, 2), of(1, 3), pair("a", "b"), pair("c", "d"))
	for _, b := range []int{254, 255, 256, 257} {
		lay(w, b, of(b, 2, 3, 3))
	}
	for _, n := range append([]int{4079, 4080, 4081, 4094, 4095, 4096, 4097, 4111, 4112, 4113, 4127, 4128}, counted(49)...) {
		for _, b := range append(far(), 0, 1, 2, 3, 4, 253, 254, 255) {
			begins(t, w[:n], b, n)
			for _, turn := range []int{0, 1, b} {
				for _, at := range []int{-1, 0, 1, 12, 13} {
					goesOn(t, w[:n], api.Seek{Block: b, Turn: turn, At: at, Refs: []int{3, b}}, n)
				}
			}
		}
	}
	for _, at := range far() {
		for _, turn := range far() {
			goesOn(t, w, api.Seek{Turn: turn, At: at, Refs: []int{at, turn}})
			goesOn(t, w, api.Seek{Block: at, Turn: turn, At: 3, Refs: []int{turn, at}})
		}
	}
}

// counted are the numbers from 0 on, so many.
func counted(n int) []int {
	var out []int
	for i := range n {
		out = append(out, i)
	}
	return out
}

// P13.4: all slots of a node that nobody changes are seen, in their order, whatever its Turn, and whatever slots it has, also the same ones twice.
func TestAllSeen(t *testing.T) {
	var more func(slots []int)
	look := func(slots []int) {
		for _, turn := range []int{0, 1, 2, 5, 1 << 20, api.MaxTurn - 1, api.MaxTurn} {
			w := built(3, 2, of(turn, slots...))
			s, e := seek.Begin(w, 2)
			s, _ = through(t, w, s)
			want := fast.Plain(slots)
			if !isUp(turn) {
				slices.Reverse(want)
			}
			if e != api.OK || !slices.Equal(s.Refs, want) || !seek.Holds(w, s) {
				t.Fatalf("%v, %d: %+v, %v", slots, turn, s, e)
			}
		}
	}
	more = func(slots []int) {
		look(slots)
		if len(slots) == 5 {
			return
		}
		for _, ref := range []int{1, 7, 255} {
			more(append(slices.Clone(slots), ref))
		}
	}
	more(nil)
	d := dice(1)
	for n := range 14 {
		look(unlike(n))
		for range 30 {
			var slots []int
			for range n {
				slots = append(slots, 1+d.below(3))
			}
			look(slots)
		}
	}
}

// unlike are n slots, unlike each other, that neither rise nor fall.
func unlike(n int) []int {
	var out []int
	for i := range n {
		out = append(out, 10+i*7%13)
	}
	return out
}

// store stores a small step's word into words; a line that is persisted changes nothing that is seen.
func store(w []int, m api.Micro) {
	if m.Kind == api.MStore {
		w[m.At] = m.Val
	}
}

// meanwhile goes through a node with a look that begins behind any number of small steps, with any number of them between its steps, and hands out what it has seen when it is over; it tells how many ways there are that differ.
func meanwhile(t *testing.T, w []int, block int, steps []api.Micro, each func(refs []int, done int)) int {
	t.Helper()
	stages := [][]int{slices.Clone(w)}
	for _, m := range steps {
		next := slices.Clone(stages[len(stages)-1])
		store(next, m)
		stages = append(stages, next)
	}
	known := map[string]bool{}
	var goOn func(s api.Seek, done int)
	goOn = func(s api.Seek, done int) {
		name := fmt.Sprint(s, done)
		if known[name] {
			return
		}
		known[name] = true
		if s.Over {
			each(s.Refs, done)
			return
		}
		if done < len(steps) {
			goOn(s, done+1)
		}
		goesOn(t, stages[done], s)
		goOn(seek.Step(stages[done], s), done)
	}
	for done := range stages {
		s, e := seek.Begin(stages[done], block)
		if e != api.OK {
			t.Fatalf("behind %d steps there is no node: %v", done, e)
		}
		goOn(s, done)
	}
	return len(known)
}

// sees holds what was seen against what must have been, and what may have been.
func sees(t *testing.T, refs, must, may []int, what ...any) {
	t.Helper()
	for _, ref := range must {
		if !slices.Contains(refs, ref) {
			t.Fatalf("%v: %d is not seen: %v", what, ref, refs)
		}
	}
	for i, ref := range refs {
		if !slices.Contains(may, ref) {
			t.Fatalf("%v: %d is seen: %v", what, ref, refs)
		}
		if i > 0 && refs[i-1] == ref {
			t.Fatalf("%v: %d is told twice: %v", what, ref, refs)
		}
	}
}

// P13.4: what goes up, while a slot is put in at any place of as many as there can be, with any of its small steps between any of the look's.
func TestPutIn(t *testing.T) {
	for n := range 13 {
		for pos := range n + 1 {
			for _, block := range []int{0, 255} {
				old := unlike(n)
				w := built(256, block, of(6, old...))
				steps, e := fast.Insert(16*block, old, pos, 200)
				if e != api.OK {
					t.Fatal(e)
				}
				with := slices.Insert(slices.Clone(old), pos, 200)
				seenNew, seenOld := false, false
				meanwhile(t, w, block, steps, func(refs []int, done int) {
					sees(t, refs, old, with, n, pos, done)
					seenNew = seenNew || slices.Equal(refs, with)
					seenOld = seenOld || slices.Equal(refs, old)
					if !slices.Equal(refs, with) && !slices.Equal(refs, old) {
						t.Fatalf("%d at %d: %v", n, pos, refs)
					}
				})
				if !seenNew || !seenOld {
					t.Fatalf("%d at %d: %v, %v", n, pos, seenNew, seenOld)
				}
			}
		}
	}
}

// P13.4: what goes down, while a slot is taken out, likewise.
func TestTakenOut(t *testing.T) {
	for n := range 14 {
		for pos := range n {
			for _, block := range []int{0, 255} {
				old := unlike(n)
				w := built(256, block, of(7, old...))
				steps, e := fast.Delete(16*block, old, pos)
				if e != api.OK {
					t.Fatal(e)
				}
				stay := slices.Delete(slices.Clone(old), pos, pos+1)
				up, upStay := slices.Clone(old), slices.Clone(stay)
				slices.Reverse(up)
				slices.Reverse(upStay)
				seenOld, seenStay := false, false
				meanwhile(t, w, block, steps, func(refs []int, done int) {
					sees(t, refs, stay, old, n, pos, done)
					seenOld = seenOld || slices.Equal(refs, up)
					seenStay = seenStay || slices.Equal(refs, upStay)
					if !slices.Equal(refs, up) && !slices.Equal(refs, upStay) {
						t.Fatalf("%d at %d: %v", n, pos, refs)
					}
				})
				if !seenOld || !seenStay {
					t.Fatalf("%d at %d: %v, %v", n, pos, seenOld, seenStay)
				}
			}
		}
	}
}

// P13.4: with slots some of which stand twice side by side, as a crash may have left them, what was there is seen too, and nothing else.
func TestTwice(t *testing.T) {
	d := dice(4)
	for range 150 {
		var old []int
		for n := d.below(13); len(old) < n; {
			old = append(old, slices.Repeat([]int{10 + len(old)}, min(n-len(old), 1+d.below(3)))...)
		}
		pos := d.below(len(old) + 1)
		in, e := fast.Insert(16, old, pos, 200)
		if e != api.OK {
			t.Fatal(e)
		}
		meanwhile(t, built(2, 1, of(2, old...)), 1, in, func(refs []int, done int) {
			sees(t, refs, old, append(slices.Clone(old), 200), old, pos, done)
		})
		if len(old) == 0 {
			continue
		}
		pos = d.below(len(old))
		out, e := fast.Delete(16, old, pos)
		if e != api.OK {
			t.Fatal(e)
		}
		meanwhile(t, built(2, 1, of(3, old...)), 1, out, func(refs []int, done int) {
			sees(t, refs, slices.Delete(slices.Clone(old), pos, pos+1), old, old, pos, done)
		})
	}
}

// P13.2, P13.4: in the midst of shifting, written out, on a memory: how many small steps are done ahead of each of the look's.
func TestMidst(t *testing.T) {
	for i, c := range []struct {
		turn  int
		slots []int
		taken bool
		pos   int
		done  []int
		refs  []int
	}{
		// The reader of the document's second example sees a, b, d, d.
		{0, []int{1, 2, 4}, false, 2, []int{1}, []int{1, 2, 4}},
		{0, []int{1, 2, 4}, false, 2, []int{1, 1}, []int{1, 2, 3, 4}},
		{0, []int{1, 2, 4}, false, 2, []int{1, 0, 0, 1}, []int{1, 2, 4}},
		{0, []int{1, 2, 4}, false, 2, []int{0, 0, 0, 2}, []int{1, 2, 4}},
		{0, []int{1, 2, 4}, false, 0, []int{0, 5}, []int{1, 2, 4}},
		{0, []int{1, 2, 4}, false, 0, []int{3, 2}, []int{1, 2, 4}},
		{0, []int{1, 2, 4}, false, 0, []int{4}, []int{3, 1, 2, 4}},
		{0, []int{1, 2, 4}, false, 3, []int{0, 0, 0, 1}, []int{1, 2, 4, 3}},
		{1, []int{1, 2, 4}, true, 0, []int{1, 12: 3}, []int{4, 2}},
		{1, []int{1, 2, 4}, true, 0, []int{1}, []int{4, 2}},
		{1, []int{1, 2, 4}, true, 0, []int{11: 4}, []int{4, 2}},
		{1, []int{1, 2, 4}, true, 0, []int{12: 1}, []int{4, 2}},
		{1, []int{1, 2, 4}, true, 0, []int{0}, []int{4, 2, 1}},
		{1, []int{1, 2, 4}, true, 2, []int{1}, []int{2, 1}},
		{1, []int{1, 2, 4}, true, 2, []int{11: 1}, []int{4, 2, 1}},
		// The other way one is left out: that is why nodes are turned.
		{0, []int{1, 2, 4}, true, 0, []int{0, 4}, []int{1, 4}},
		{1, []int{1, 2, 4}, false, 0, []int{10: 5}, []int{2, 1, 3}},
	} {
		m, _ := pmem.New(built(2, 1, of(c.turn, c.slots...)))
		var prog []api.Micro
		e := api.OK
		if c.taken {
			prog, e = fast.Delete(16, c.slots, c.pos)
		} else {
			prog, e = fast.Insert(16, c.slots, c.pos, 3)
		}
		s, f := seek.Begin(m.Vol, 1)
		if e != api.OK || f != api.OK {
			t.Fatal(e, f)
		}
		for n := 0; !s.Over && n < 20; n++ {
			if n < len(c.done) {
				m, e = micro.Run(m, prog[:c.done[n]])
				prog = prog[c.done[n]:]
			}
			if e != api.OK {
				t.Fatal(e)
			}
			s = seek.Step(m.Vol, s)
		}
		if !slices.Equal(s.Refs, c.refs) {
			t.Errorf("row %d: %v, not %v", i, s.Refs, c.refs)
		}
	}
}

// dice are numbers of some kind or other, the same ones each time.
type dice uint64

func (d *dice) below(n int) int {
	*d = *d*6364136223846793005 + 1442695040888963407
	return int(uint64(*d)>>33) % n
}

// P13.1 to P13.3, R1: whatever words, blocks and looks there are, something is told, and that which the document says.
func TestWhatever(t *testing.T) {
	d := dice(2)
	numbers := append(far(), 0, 1, 2, 3, 4, 5, 6, 7, 8, 9, 10, 11, 12, 15, 1<<60+16, 1<<60+32, api.MaxTurn)
	some := func() int { return numbers[d.below(len(numbers))] }
	for i := range 20000 {
		w := make([]int, d.below(100))
		for at := range w {
			w[at] = some()
		}
		for b := range len(w) / 16 {
			switch d.below(6) {
			case 0, 1:
				lay(w, b, of(d.below(5), unlike(d.below(14))...))
			case 2:
				lay(w, b, pair(strconv.Itoa(d.below(3)), strconv.Itoa(i)))
			case 3:
				lay(w, b, from(strconv.Itoa(d.below(3)), 1+d.below(255)))
			}
		}
		s := api.Seek{Block: some(), Turn: some(), At: some(), Over: d.below(4) == 0}
		if d.below(3) > 0 {
			s.Block, s.Turn, s.At = d.below(6), d.below(5), d.below(13)
		}
		for range d.below(6) {
			s.Refs = append(s.Refs, some())
		}
		goesOn(t, w, s, i)
		begins(t, w, s.Block, i)
		for range 14 {
			s = seek.Step(w, s)
			goesOn(t, w, s, i)
		}
	}
}

// spoil writes over a list and its spare room.
func spoil[T any](l []T, x T) {
	l = l[:cap(l)]
	for i := range l {
		l[i] = x
	}
}

// withRoom is l with spare room behind it, and whether both are as they were.
func withRoom(l []int, more ...int) ([]int, func() bool) {
	room := slices.Concat(l, more)
	was := slices.Clone(room)
	return room[:len(l)], func() bool { return slices.Equal(room, was) }
}

// R4, R5: words and looks that are handed in stay as they were, their spare room too, nothing hangs on that room, and what is told is new each time.
func TestStays(t *testing.T) {
	was := built(5, 0, of(0, 3, 4), of(1, 4, 4, 3), of(2), pair("b", "1"), pair("a", "2"))
	for _, n := range []int{0, 15, 16, 31, 40, 48, 79, 80} {
		for block := -1; block < 6; block++ {
			for _, refs := range [][]int{nil, {3}, {4}, {3, 4}, {4, 3, 4, 4}} {
				for _, s := range []api.Seek{{}, {At: 1}, {At: 2}, {At: 12}, {Turn: 1, At: 12}, {Turn: 1, At: 2}, {Turn: 1}, {Over: true}, {At: 13}, {Turn: 2}} {
					w, wordsStay := withRoom(was[:n], was[n:]...)
					r, refsStay := withRoom(refs, 3, 4, 5, 6)
					s.Block, s.Refs = block, r
					begins(t, w, block, n)
					goesOn(t, w, s, n)
					step, hits := seek.Step(w, s), seek.Hits(w, s)
					moreStep, moreHits := seek.Step(w, s), seek.Hits(w, s)
					spoil(moreStep.Refs, -7)
					spoil(moreHits, pair("spoilt", "spoilt"))
					if !wordsStay() || !refsStay() {
						t.Fatalf("%d: %+v was changed", n, s)
					}
					want := wantStep(was[:n], api.Seek{Block: block, Turn: s.Turn, At: s.At, Refs: slices.Clone(refs), Over: s.Over})
					wantHit := wantHits(was[:n], s)
					spoil(w, -5)
					spoil(r, -5)
					if !same(step, want) || !slices.Equal(hits, wantHit) {
						t.Fatalf("%d: %+v: %+v, %+v are shared", n, s, step, hits)
					}
				}
			}
		}
	}
}

// R4: of looks that go on from one and the same none has what another one saw.
func TestApart(t *testing.T) {
	w := built(2, 0, of(0, 3, 4, 5, 6, 7, 8), of(0, 3, 4, 5, 6, 7, 9))
	s, _ := seek.Begin(w, 0)
	for i := range 6 {
		s = seek.Step(w, s)
		other := w[16:]
		a, b := seek.Step(w, s), seek.Step(changed(other, 4+i, 99), s)
		goesOn(t, w, s)
		if !same(a, wantStep(w, s)) || !same(b, wantStep(changed(other, 4+i, 99), s)) {
			t.Fatalf("behind %d: %+v, %+v", i, a, b)
		}
	}
}
