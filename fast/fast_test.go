package fast_test

import (
	"fmt"
	"math"
	"slices"
	"testing"

	"lamplighter/api"
	"lamplighter/fast"
	"lamplighter/micro"
	"lamplighter/pmem"
)

func store(at, val int) api.Micro { return api.Micro{Kind: 1, At: at, Val: val} }
func persist(line int) api.Micro  { return api.Micro{Kind: 2, At: line} }

// utmost are numbers far off all places and slots.
var utmost = []int{math.MinInt, math.MinInt + 1, math.MinInt + 16, -1 << 32, -4096, 1 << 20, 1 << 32, 1<<32 + 16, 1 << 62, math.MaxInt - 15, math.MaxInt}

// nodes are bases of nodes: the first one, the second one, one in the midst, and the last one.
var nodes = []int{0, 16, 2048, 4080}

// noNodes are numbers that are no node's base, on both sides of those that are.
var noNodes = append([]int{-1, -8, -15, -16, -17, -32, 1, 3, 8, 15, 17, 24, 2049, 4072, 4079, 4081, 4088, 4095, 4096, 4097, 4112}, utmost...)

// slots are n slots, each unlike the others.
func slots(n int) []int {
	out := make([]int, n)
	for i := range out {
		out[i] = 101 + i
	}
	return out
}

// wrongSlots are lists of slots that may not be: too many, and one that is not above 0, as the first one, a middle one and the last one.
func wrongSlots() [][]int {
	out := [][]int{slots(14), slots(15), slots(26), slots(5000), make([]int, 14), {0}, {-1}, {0, 0}, make([]int, 13)}
	for _, n := range []int{1, 2, 3, 5, 6, 7, 12, 13} {
		for _, at := range []int{0, n / 2, n - 1} {
			for _, ref := range []int{0, -1, -101, math.MinInt} {
				l := slots(n)
				l[at] = ref
				out = append(out, l)
			}
		}
	}
	return out
}

// around are the numbers from some below 0 to some above n, and the utmost ones.
func around(n int) []int {
	out := slices.Clone(utmost)
	for i := -3; i <= n+3; i++ {
		out = append(out, i)
	}
	return append(out, -16, 12, 13, 14, 16, 255)
}

// P6.1: the place of each slot of each node; -1 of all others.
func TestPlace(t *testing.T) {
	some := append(around(13), slices.Concat(nodes, noNodes)...)
	for base := -40; base <= api.MaxWords+40; base++ {
		for _, slot := range some {
			want := -1
			if base >= 0 && base < 4096 && base%16 == 0 && slot >= 0 && slot <= 12 {
				want = base + 3 + slot
			}
			if got := fast.Place(base, slot); got != want {
				t.Fatalf("Place(%d, %d): %d", base, slot, got)
			}
		}
	}
	for _, base := range noNodes {
		for _, slot := range some {
			if got := fast.Place(base, slot); got != -1 {
				t.Errorf("Place(%d, %d): %d", base, slot, got)
			}
		}
	}
	for _, c := range [][3]int{{0, 0, 3}, {0, 4, 7}, {0, 5, 8}, {0, 12, 15}, {4080, 12, 4095}} {
		if got := fast.Place(c[0], c[1]); got != c[2] {
			t.Errorf("Place(%d, %d): %d", c[0], c[1], got)
		}
	}
}

// laid are so many words with l as the slots of base, and 7 everywhere else but behind l.
func laid(words, base int, l []int) []int {
	out := slices.Repeat([]int{7}, words)
	clear(out[base+3 : base+16])
	copy(out[base+3:], l)
	return out
}

// P6.1: Slots of nodes that have none, some and all; what ends them is 0 or below it, and nothing behind it counts.
func TestSlots(t *testing.T) {
	for _, base := range nodes {
		for n := range 14 {
			words := laid(4096, base, slots(n))
			if got := fast.Slots(words, base); !slices.Equal(got, slots(n)) {
				t.Errorf("%d slots of %d: %v", n, base, got)
			}
			for _, end := range []int{0, -1, -101, math.MinInt} {
				for at := range n {
					with := slices.Clone(words)
					with[base+3+at] = end
					if got := fast.Slots(with, base); !slices.Equal(got, slots(at)) {
						t.Errorf("%d slots of %d, %d at %d: %v", n, base, end, at, got)
					}
				}
			}
		}
	}
}

// P6.1: a node's first three words are no slots, whatever they are; slots may be the same, and of any number above 0.
func TestSlotsWords(t *testing.T) {
	for _, first := range []int{0, 1, -1, math.MinInt, math.MaxInt} {
		words := append([]int{first, first, first}, 4, 4, 5, 0, 6, 0, 0, 0, 0, 0, 0, 0, 0)
		if got := fast.Slots(words, 0); !slices.Equal(got, []int{4, 4, 5}) {
			t.Errorf("%d ahead: %v", first, got)
		}
	}
	words := append([]int{0, 0, 0}, 1, math.MaxInt, 1, 1, 256, 255, 1<<32+1, 1<<62, 1<<32, 2, 2, 2, 9)
	if got := fast.Slots(words, 0); !slices.Equal(got, words[3:]) {
		t.Error(got)
	}
}

// P6.1: no slots, if base is no node's, or words has not all of the node's.
func TestSlotsNone(t *testing.T) {
	for _, length := range []int{0, 15, 16, 32, 4096, 4112, 5000} {
		words := slices.Repeat([]int{7}, length)
		for _, base := range noNodes {
			if got := fast.Slots(words, base); len(got) != 0 {
				t.Errorf("%d words, base %d: %v", length, base, got)
			}
		}
	}
	for _, base := range nodes {
		for length := max(0, base-20); length <= base+40; length++ {
			want := 0
			if length >= base+16 {
				want = 13
			}
			if got := fast.Slots(slices.Repeat([]int{7}, length), base); len(got) != want {
				t.Errorf("%d words, base %d: %v", length, base, got)
			}
		}
		if got := fast.Slots(nil, base); len(got) != 0 {
			t.Errorf("no words, base %d: %v", base, got)
		}
	}
}

// P6.1: Plain, written out, of any numbers, slots or not.
func TestPlain(t *testing.T) {
	for _, c := range [][2][]int{
		{nil, nil}, {{}, {}}, {{1}, {1}}, {{0}, {0}}, {{1, 1}, {1}}, {{1, 2}, {1, 2}}, {{1, 1, 1, 1}, {1}},
		{{1, 2, 1}, {1, 2, 1}}, {{1, 2, 2, 1, 1, 2}, {1, 2, 1, 2}}, {{4, 4, 5}, {4, 5}}, {{4, 5, 5}, {4, 5}},
		{{0, 0, -1, -1, 0}, {0, -1, 0}}, {{math.MinInt, math.MinInt, math.MaxInt}, {math.MinInt, math.MaxInt}},
		{slots(13), slots(13)}, {slots(40), slots(40)}, {make([]int, 3000), {0}},
	} {
		if got := fast.Plain(c[0]); !slices.Equal(got, c[1]) {
			t.Errorf("Plain(%v): %v", c[0], got)
		}
	}
}

// P6.1: Plain of all lists of up to seven of three numbers: each but those that are the same as the one ahead.
func TestPlainAll(t *testing.T) {
	var walk func(l, want []int)
	walk = func(l, want []int) {
		if got := fast.Plain(l); !slices.Equal(got, want) {
			t.Fatalf("Plain(%v): %v", l, got)
		}
		if len(l) == 7 {
			return
		}
		for ref := range 3 {
			more := want
			if len(l) == 0 || l[len(l)-1] != ref {
				more = append(slices.Clone(want), ref)
			}
			walk(append(slices.Clone(l), ref), more)
		}
	}
	walk(nil, nil)
}

// sentence are the steps by which slots are stored, in order, as the document says it: those of one line, and that line persisted, and then those of the other one.
func sentence(base int, order, vals []int) []api.Micro {
	var out []api.Micro
	lineOf := func(slot int) int {
		if slot <= 4 {
			return base / 8
		}
		return base/8 + 1
	}
	for i, slot := range order {
		if i > 0 && lineOf(slot) != lineOf(order[i-1]) {
			out = append(out, persist(lineOf(order[i-1])))
		}
		out = append(out, store(base+3+slot, vals[i]))
	}
	if len(order) > 0 {
		out = append(out, persist(lineOf(order[len(order)-1])))
	}
	return out
}

func insertSteps(base int, l []int, pos, ref int) []api.Micro {
	var order, vals []int
	for slot := len(l); slot > pos; slot-- {
		order, vals = append(order, slot), append(vals, l[slot-1])
	}
	return sentence(base, append(order, pos), append(vals, ref))
}

func deleteSteps(base int, l []int, pos int) []api.Micro {
	var order, vals []int
	for slot := pos; slot < len(l)-1; slot++ {
		order, vals = append(order, slot), append(vals, l[slot+1])
	}
	return sentence(base, append(order, len(l)-1), append(vals, 0))
}

func cutSteps(base int, l []int, n int) []api.Micro {
	var order []int
	for slot := len(l) - 1; slot >= n; slot-- {
		order = append(order, slot)
	}
	return sentence(base, order, make([]int, len(order)))
}

// asked tells whether a call answers the steps that the document asks for, or the error; none of the steps is off the words.
func asked(got []api.Micro, e api.Errno, want []api.Micro, told api.Errno) bool {
	return e == told && slices.Equal(got, want) && micro.Check(got, api.MaxWords)
}

// lists are slots that may be: of each number, unlike ones and ones that are the same as the one ahead, the least and the greatest.
func lists() [][]int {
	out := [][]int{{}}
	for n := range 14 {
		out = append(out, slots(n), slices.Repeat([]int{1}, n), slices.Repeat([]int{math.MaxInt}, n))
		pairs := slots(n)
		for i := range pairs {
			pairs[i] = 1 + i/2
		}
		out = append(out, pairs)
	}
	return out
}

var refs = []int{math.MinInt, -101, -1, 0, 1, 2, 101, 113, 114, 255, 256, 1 << 32, math.MaxInt}

// P6.2: Insert at each place, of each base, with each ref.
func TestInsert(t *testing.T) {
	for _, base := range slices.Concat(nodes, noNodes) {
		for _, l := range slices.Concat(lists(), wrongSlots()) {
			for _, pos := range around(len(l)) {
				for _, ref := range refs {
					told := api.OK
					if !slices.Contains(nodes, base) || len(l) > 13 || len(l) > 0 && slices.Min(l) < 1 || ref < 1 || pos < 0 || pos > len(l) {
						told = api.ErrArg
					} else if len(l) == 13 {
						told = api.ErrFull
					}
					var want []api.Micro
					if told == api.OK {
						want = insertSteps(base, l, pos, ref)
					}
					if got, e := fast.Insert(base, l, pos, ref); !asked(got, e, want, told) {
						t.Fatalf("Insert(%d, %v, %d, %d): %v, %v", base, l, pos, ref, e, got)
					}
				}
			}
		}
	}
}

// P6.2: what may not be is told ahead of there being MaxSlots.
func TestInsertFull(t *testing.T) {
	full := slots(13)
	for pos := range 14 {
		if got, e := fast.Insert(0, full, pos, 1); !asked(got, e, nil, api.ErrFull) {
			t.Errorf("full, at %d: %v, %v", pos, e, got)
		}
	}
	for i, c := range []struct {
		base, pos, ref int
		l              []int
	}{
		{8, 0, 1, full}, {4096, 0, 1, full}, {-16, 0, 1, full}, {0, 14, 1, full}, {0, -1, 1, full}, {0, 0, 0, full}, {0, 13, -1, full},
		{0, 0, 1, slots(14)}, {0, 0, 1, append(slots(12), 0)}, {0, 0, 1, append([]int{-1}, slots(12)...)},
	} {
		if got, e := fast.Insert(c.base, c.l, c.pos, c.ref); !asked(got, e, nil, api.ErrArg) {
			t.Errorf("row %d: %v, %v", i, e, got)
		}
	}
}

// P6.3: Delete at each place, of each base.
func TestDelete(t *testing.T) {
	for _, base := range slices.Concat(nodes, noNodes) {
		for _, l := range slices.Concat(lists(), wrongSlots()) {
			for _, pos := range around(len(l)) {
				told := api.OK
				var want []api.Micro
				if !slices.Contains(nodes, base) || len(l) > 13 || len(l) > 0 && slices.Min(l) < 1 || pos < 0 || pos >= len(l) {
					told = api.ErrArg
				} else {
					want = deleteSteps(base, l, pos)
				}
				if got, e := fast.Delete(base, l, pos); !asked(got, e, want, told) {
					t.Fatalf("Delete(%d, %v, %d): %v, %v", base, l, pos, e, got)
				}
			}
		}
	}
}

// P6.4: Swap at each place, of each base, with each ref: one store, and its line.
func TestSwap(t *testing.T) {
	for _, base := range slices.Concat(nodes, noNodes) {
		for _, l := range slices.Concat(lists(), wrongSlots()) {
			for _, pos := range around(len(l)) {
				for _, ref := range refs {
					told := api.OK
					var want []api.Micro
					if !slices.Contains(nodes, base) || len(l) > 13 || len(l) > 0 && slices.Min(l) < 1 || pos < 0 || pos >= len(l) || ref < 1 {
						told = api.ErrArg
					} else {
						want = []api.Micro{store(base+3+pos, ref), persist((base + 3 + pos) / 8)}
					}
					if got, e := fast.Swap(base, l, pos, ref); !asked(got, e, want, told) {
						t.Fatalf("Swap(%d, %v, %d, %d): %v, %v", base, l, pos, ref, e, got)
					}
				}
			}
		}
	}
}

// P6.4: Cut to each number, of each base; nothing, if it is as many.
func TestCut(t *testing.T) {
	for _, base := range slices.Concat(nodes, noNodes) {
		for _, l := range slices.Concat(lists(), wrongSlots()) {
			for _, n := range around(len(l)) {
				told := api.OK
				var want []api.Micro
				if !slices.Contains(nodes, base) || len(l) > 13 || len(l) > 0 && slices.Min(l) < 1 || n < 0 || n > len(l) {
					told = api.ErrArg
				} else {
					want = cutSteps(base, l, n)
				}
				if got, e := fast.Cut(base, l, n); !asked(got, e, want, told) {
					t.Fatalf("Cut(%d, %v, %d): %v, %v", base, l, n, e, got)
				}
			}
		}
	}
}

// P6.2 to P6.4: the very steps, written out: in the first line alone, in the second one alone, in both, and at slots 4 and 5.
func TestStepsWords(t *testing.T) {
	type steps = []api.Micro
	one, five, six, twelve := []int{1}, slots(5), slots(6), slots(12)
	for i, c := range []struct {
		got  func() (steps, api.Errno)
		want steps
	}{
		{func() (steps, api.Errno) { return fast.Insert(0, nil, 0, 9) }, steps{store(3, 9), persist(0)}},
		{func() (steps, api.Errno) { return fast.Insert(0, []int{1, 2}, 0, 9) }, steps{store(5, 2), store(4, 1), store(3, 9), persist(0)}},
		{func() (steps, api.Errno) { return fast.Insert(0, []int{2, 2}, 1, 2) }, steps{store(5, 2), store(4, 2), persist(0)}},
		{func() (steps, api.Errno) { return fast.Insert(0, slots(4), 4, 9) }, steps{store(7, 9), persist(0)}},
		{func() (steps, api.Errno) { return fast.Insert(0, five, 5, 9) }, steps{store(8, 9), persist(1)}},
		{func() (steps, api.Errno) { return fast.Insert(0, five, 4, 9) }, steps{store(8, 105), persist(1), store(7, 9), persist(0)}},
		{func() (steps, api.Errno) { return fast.Insert(32, five, 3, 9) }, steps{store(40, 105), persist(5), store(39, 104), store(38, 9), persist(4)}},
		{func() (steps, api.Errno) { return fast.Insert(4080, twelve, 12, 9) }, steps{store(4095, 9), persist(511)}},
		{func() (steps, api.Errno) { return fast.Delete(0, one, 0) }, steps{store(3, 0), persist(0)}},
		{func() (steps, api.Errno) { return fast.Delete(0, five, 3) }, steps{store(6, 105), store(7, 0), persist(0)}},
		{func() (steps, api.Errno) { return fast.Delete(0, six, 4) }, steps{store(7, 106), persist(0), store(8, 0), persist(1)}},
		{func() (steps, api.Errno) { return fast.Delete(0, six, 5) }, steps{store(8, 0), persist(1)}},
		{func() (steps, api.Errno) { return fast.Delete(16, []int{8, 8, 8}, 0) }, steps{store(19, 8), store(20, 8), store(21, 0), persist(2)}},
		{func() (steps, api.Errno) { return fast.Delete(4080, slots(13), 11) }, steps{store(4094, 113), store(4095, 0), persist(511)}},
		{func() (steps, api.Errno) { return fast.Swap(0, six, 4, 9) }, steps{store(7, 9), persist(0)}},
		{func() (steps, api.Errno) { return fast.Swap(0, six, 5, 9) }, steps{store(8, 9), persist(1)}},
		{func() (steps, api.Errno) { return fast.Swap(0, one, 0, 1) }, steps{store(3, 1), persist(0)}},
		{func() (steps, api.Errno) { return fast.Cut(0, nil, 0) }, nil},
		{func() (steps, api.Errno) { return fast.Cut(0, one, 0) }, steps{store(3, 0), persist(0)}},
		{func() (steps, api.Errno) { return fast.Cut(0, one, 1) }, nil},
		{func() (steps, api.Errno) { return fast.Cut(0, six, 5) }, steps{store(8, 0), persist(1)}},
		{func() (steps, api.Errno) { return fast.Cut(0, six, 4) }, steps{store(8, 0), persist(1), store(7, 0), persist(0)}},
		{func() (steps, api.Errno) { return fast.Cut(4080, slots(13), 11) }, steps{store(4095, 0), store(4094, 0), persist(511)}},
		{func() (steps, api.Errno) { return fast.Cut(4080, slots(13), 13) }, nil},
	} {
		if got, e := c.got(); !asked(got, e, c.want, api.OK) {
			t.Errorf("row %d: %v, %v", i, e, got)
		}
	}
}

// change is what slots were, what they are to be, the steps to it, and behind how many of these that is seen.
type change struct {
	name   string
	from   []int
	to     []int
	steps  []api.Micro
	turned int
}

// changes are all Inserts, Deletes and Swaps of n unlike slots.
func changes(t *testing.T, base, n int) []change {
	l, ref := slots(n), 50
	var out []change
	add := func(name string, to []int, steps []api.Micro, e api.Errno, turned int) {
		if e != api.OK {
			t.Fatal(name, e)
		}
		out = append(out, change{fmt.Sprintf("%s, %d slots of %d", name, n, base), l, to, steps, turned})
	}
	for pos := range n + 1 {
		if n < 13 {
			steps, e := fast.Insert(base, l, pos, ref)
			add(fmt.Sprint("Insert ", pos), slices.Insert(slices.Clone(l), pos, ref), steps, e, len(steps)-1)
		}
		if pos < n {
			steps, e := fast.Delete(base, l, pos)
			add(fmt.Sprint("Delete ", pos), slices.Delete(slices.Clone(l), pos, pos+1), steps, e, 1)
			steps, e = fast.Swap(base, l, pos, ref)
			add(fmt.Sprint("Swap ", pos), slices.Concat(l[:pos], []int{ref}, l[pos+1:]), steps, e, 1)
		}
	}
	return out
}

// behind are the memories behind none of the steps, one, and so on, of a memory that has l, kept, as the slots of base.
func behind(t *testing.T, words, base int, l []int, steps []api.Micro) []api.Mem {
	m, _ := pmem.New(laid(words, base, l))
	out := []api.Mem{m}
	for i := range steps {
		next, e := micro.Run(m, steps[:i+1])
		if e != api.OK {
			t.Fatal(steps, e)
		}
		out = append(out, next)
	}
	return out
}

// keeps are what may be kept of the two lines of a node: of each none, each number up to more than all, and what says less than none.
func keeps(base int) [][]int {
	var out [][]int
	ahead := make([]int, base/8)
	for a := -1; a <= 9; a++ {
		for b := -1; b <= 9; b++ {
			out = append(out, slices.Concat(ahead, []int{a, b}))
		}
	}
	return append(out, nil, append(slices.Clone(ahead), math.MaxInt), append(slices.Clone(ahead), math.MinInt, math.MaxInt), slices.Repeat([]int{99}, base/8+9))
}

// othersStay tells whether all words but the slots of base are as they were laid.
func othersStay(words []int, base int, l []int) bool {
	was, now := laid(len(words), base, l), slices.Clone(words)
	clear(was[base+3 : base+16])
	clear(now[base+3 : base+16])
	return slices.Equal(was, now)
}

// P6.5: whatever number of steps is done, and whatever is kept, slots are plainly as they were, or as they are to be; what is seen is the latter from one of the steps on.
func TestWhole(t *testing.T) {
	for _, base := range []int{0, 16} {
		for n := range 14 {
			for _, c := range changes(t, base, n) {
				for done, m := range behind(t, 48, base, c.from, c.steps) {
					seen := c.from
					if done >= c.turned {
						seen = c.to
					}
					if got := fast.Plain(fast.Slots(m.Vol, base)); !slices.Equal(got, seen) || !othersStay(m.Vol, base, c.from) {
						t.Fatalf("%s: behind %d steps %v is seen", c.name, done, got)
					}
					for _, keep := range keeps(base) {
						words, e := pmem.Crash(m, keep)
						got := fast.Plain(fast.Slots(words, base))
						if e != api.OK || !slices.Equal(got, c.from) && !slices.Equal(got, c.to) || !othersStay(words, base, c.from) {
							t.Fatalf("%s: behind %d steps, keeping %v: %v, %v", c.name, done, keep, e, got)
						}
						if done == len(c.steps) && !slices.Equal(fast.Slots(words, base), c.to) {
							t.Fatalf("%s: not kept behind all: %v", c.name, words)
						}
					}
				}
			}
		}
	}
}

// P6.5: of a Cut some beginning is left, with what they are to be, and nothing behind it that could come back.
func TestWholeCut(t *testing.T) {
	for _, base := range []int{0, 16} {
		for n := range 14 {
			l := slots(n)
			for left := range n + 1 {
				steps, e := fast.Cut(base, l, left)
				if e != api.OK {
					t.Fatal(n, left, e)
				}
				for done, m := range behind(t, 48, base, l, steps) {
					for _, keep := range keeps(base) {
						words, e := pmem.Crash(m, keep)
						got := fast.Slots(words, base)
						if e != api.OK || len(got) < left || len(got) > n || !slices.Equal(got, l[:len(got)]) || !slices.Equal(words, laid(48, base, got)) {
							t.Fatalf("Cut to %d of %d slots, behind %d steps, keeping %v: %v, %v", left, n, done, keep, e, words)
						}
						if done == len(steps) && len(got) != left {
							t.Fatalf("Cut to %d of %d slots: not kept behind all: %v", left, n, words)
						}
					}
					if got := fast.Slots(m.Vol, base); len(got) < left || !slices.Equal(m.Vol, laid(48, base, got)) || done == len(steps) && len(got) != left {
						t.Fatalf("Cut to %d of %d slots, behind %d steps: %v is seen", left, n, done, got)
					}
				}
			}
		}
	}
}

// P6.5: the same by micro's Crash, which does the steps itself, on the last node of the greatest memory.
func TestWholeLast(t *testing.T) {
	const base = 4080
	for _, n := range []int{0, 4, 5, 6, 12, 13} {
		m, _ := pmem.New(laid(4096, base, slots(n)))
		for _, c := range changes(t, base, n) {
			for done := range len(c.steps) + 2 {
				for _, both := range [][2]int{{-1, -1}, {1, 0}, {0, 1}, {2, 2}, {0, 99}, {99, 0}} {
					keep := append(make([]int, 510), both[:]...)
					words, e := micro.Crash(m, c.steps, done, keep)
					got := fast.Plain(fast.Slots(words, base))
					if e != api.OK || !slices.Equal(got, c.from) && !slices.Equal(got, c.to) {
						t.Fatalf("%s: behind %d steps, keeping %v: %v, %v", c.name, done, both, e, got)
					}
				}
			}
		}
	}
}

// P6.5: one change behind the other, each from what the one ahead has kept: no slot comes back.
func TestInRow(t *testing.T) {
	m, _ := pmem.New(laid(32, 16, nil))
	var l []int
	for i := range 400 {
		var steps []api.Micro
		var e api.Errno
		pos, ref := i*7%(len(l)+1), 1000+i
		switch {
		case i%29 == 28:
			steps, e = fast.Cut(16, l, len(l)/2)
			l = l[:len(l)/2]
		case len(l) == 13 || i%3 == 2 && pos < len(l):
			pos = min(pos, len(l)-1)
			steps, e = fast.Delete(16, l, pos)
			l = slices.Delete(slices.Clone(l), pos, pos+1)
		case i%5 == 4 && pos < len(l):
			steps, e = fast.Swap(16, l, pos, ref)
			l = slices.Concat(l[:pos], []int{ref}, l[pos+1:])
		default:
			steps, e = fast.Insert(16, l, pos, ref)
			l = slices.Insert(slices.Clone(l), pos, ref)
		}
		next, told := micro.Run(m, steps)
		if e != api.OK || told != api.OK || len(next.Pend) != 0 || !slices.Equal(next.Per, laid(32, 16, l)) {
			t.Fatalf("change %d: %v, %v, %v, want %v", i, e, told, next.Per, l)
		}
		m = next
	}
}

// withRoom is a list of those of l, with room behind it, and what tells whether all of that is as it was.
func withRoom(l []int) ([]int, func() bool) {
	whole := append(slices.Clone(l), 71, 72, 73)
	was := slices.Clone(whole)
	return whole[:len(l)], func() bool { return slices.Equal(whole, was) }
}

// spoil changes all of a list, its room too.
func spoil[T any](l []T, with T) {
	for i := range l[:cap(l)] {
		l[:cap(l)][i] = with
	}
}

// R4, for P6.1 to P6.4: what is handed in stays, its spare room too, in the call and behind it, whatever is done to the answer.
func TestHandedIn(t *testing.T) {
	for i, from := range slices.Concat(lists(), wrongSlots()) {
		l, same := withRoom(from)
		plain := fast.Plain(l)
		spoil(plain, 99)
		if !same() {
			t.Errorf("list %d: Plain: what was handed in is another one", i)
		}
		for _, pos := range []int{-1, 0, 1, len(l) / 2, len(l) - 1, len(l), len(l) + 1} {
			for name, call := range map[string]func() ([]api.Micro, api.Errno){
				"Insert": func() ([]api.Micro, api.Errno) { return fast.Insert(16, l, pos, 5) },
				"Delete": func() ([]api.Micro, api.Errno) { return fast.Delete(16, l, pos) },
				"Swap":   func() ([]api.Micro, api.Errno) { return fast.Swap(16, l, pos, 5) },
				"Cut":    func() ([]api.Micro, api.Errno) { return fast.Cut(16, l, pos) },
			} {
				first, _ := call()
				was := slices.Clone(first)
				spoil(first, store(99, 99))
				again, _ := call()
				if !same() || !slices.Equal(again, was) {
					t.Errorf("list %d: %s at %d: what was handed in, or the next answer, is another one", i, name, pos)
				}
			}
		}
	}
	for n := range 14 {
		words, same := withRoom(laid(32, 0, slots(n)))
		for _, base := range []int{0, 16, 32} {
			got := fast.Slots(words, base)
			got = append(got, 98)
			spoil(got, 99)
			if !same() {
				t.Errorf("%d slots of %d: what was handed in is another one", n, base)
			}
			spoil(fast.Slots(words, base), 99)
			if !same() {
				t.Errorf("%d slots of %d: the answer's room is that of what was handed in", n, base)
			}
		}
	}
}
