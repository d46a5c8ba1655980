package micro_test

import (
	"fmt"
	"math"
	"slices"
	"testing"

	"lamplighter/api"
	"lamplighter/micro"
	"lamplighter/pmem"
)

func store(at, val int) api.Micro { return api.Micro{Kind: 1, At: at, Val: val} }
func persist(line int) api.Micro  { return api.Micro{Kind: 2, At: line} }

// utmost are numbers far off all places, lines and words.
var utmost = []int{math.MinInt, math.MinInt + 1, math.MinInt + 8, -1 << 32, -4096, 5000, 1 << 20, 1 << 32, 1<<32 + 8, 1 << 61, 1 << 62, math.MaxInt - 7, math.MaxInt}

// equal tells whether two memories are alike; a list without elements may be nil or not.
func equal(a, b api.Mem) bool {
	return slices.Equal(a.Vol, b.Vol) && slices.Equal(a.Per, b.Per) && slices.Equal(a.Pend, b.Pend)
}

func clone(m api.Mem) api.Mem {
	return api.Mem{Vol: slices.Clone(m.Vol), Per: slices.Clone(m.Per), Pend: slices.Clone(m.Pend)}
}

// pending is a memory of so many words, 0 at first, in which pend was stored.
func pending(words int, pend ...api.Pending) api.Mem {
	m := api.Mem{Vol: make([]int, words), Per: make([]int, words), Pend: pend}
	for _, p := range pend {
		m.Vol[p.At] = p.Val
	}
	return m
}

// may are memories that may be: without words, of one line, of some, of as many as may be; with nothing pending, and with some, flushed and not.
func may() []api.Mem {
	full, _ := pmem.New(slices.Repeat([]int{3, -4}, api.MaxWords/2))
	last := api.MaxWords - 1
	return []api.Mem{
		{},
		{Vol: []int{}, Per: []int{}, Pend: []api.Pending{}},
		pending(8),
		pending(16),
		full,
		pending(8, api.Pending{At: 7, Val: 1}, api.Pending{At: 0, Val: 2}, api.Pending{At: 7, Val: 3}),
		pending(16, api.Pending{At: 8, Val: 5, Flushed: true}, api.Pending{At: 0, Val: 1}, api.Pending{At: 9, Val: 6}),
		pending(24, api.Pending{At: 1, Val: 5, Flushed: true}, api.Pending{At: 23, Val: -1, Flushed: true}, api.Pending{At: 1, Val: 6}, api.Pending{At: 9, Val: 7}, api.Pending{At: 2, Val: 8}),
		pending(api.MaxWords, api.Pending{At: last, Val: math.MinInt}, api.Pending{At: 0, Val: math.MaxInt, Flushed: true}),
	}
}

// mayNot are memories that may not be, one a way at least.
func mayNot() []api.Mem {
	return []api.Mem{
		pending(api.MaxWords + 8), pending(12), pending(1),
		{Vol: make([]int, 8)}, {Per: make([]int, 8)}, {Vol: make([]int, 16), Per: make([]int, 8)}, {Vol: make([]int, 8), Per: make([]int, 16)},
		{Vol: make([]int, 8), Per: []int{0, 0, 0, 0, 0, 0, 0, 1}},
		{Vol: make([]int, 8), Per: make([]int, 8), Pend: []api.Pending{{At: 0, Val: 1}}},
		{Vol: make([]int, 8), Per: make([]int, 8), Pend: []api.Pending{{At: 8}}},
		{Vol: make([]int, 8), Per: make([]int, 8), Pend: []api.Pending{{At: -1}}},
		{Vol: make([]int, 8), Per: make([]int, 8), Pend: []api.Pending{{At: 0}, {At: 1, Flushed: true}}},
		{Pend: []api.Pending{{}}},
	}
}

// P5.1: of how many words there may be steps, whether there are any or not.
func TestCheckWords(t *testing.T) {
	numbers := slices.Clone(utmost)
	for words := -40; words <= api.MaxWords+40; words++ {
		numbers = append(numbers, words)
	}
	for _, words := range numbers {
		ok := words >= 0 && words <= 4096 && words%8 == 0
		if micro.Check(nil, words) != ok || micro.Check([]api.Micro{}, words) != ok {
			t.Errorf("no steps, %d words", words)
		}
		if micro.Check([]api.Micro{store(0, 1), persist(0)}, words) != (ok && words > 0) {
			t.Errorf("two steps, %d words", words)
		}
	}
}

// P5.1: which places and which lines steps may have, all around those that are there.
func TestCheckPlaces(t *testing.T) {
	for _, words := range []int{0, 8, 16, 24, 128, api.MaxWords - 8, api.MaxWords} {
		places := append([]int{words - 1, words, words/8 - 1, words / 8}, utmost...)
		for at := -20; at <= words+20; at++ {
			places = append(places, at)
		}
		for _, at := range places {
			for _, val := range []int{0, 1, -1, math.MinInt, math.MaxInt} {
				if micro.Check([]api.Micro{store(at, val)}, words) != (at >= 0 && at < words) {
					t.Fatalf("%d at %d, of %d words", val, at, words)
				}
				if micro.Check([]api.Micro{{Kind: 2, At: at, Val: val}}, words) != (at >= 0 && at < words/8 && val == 0) {
					t.Fatalf("line %d, %d, of %d words", at, val, words)
				}
			}
		}
	}
}

// P5.1: there are two kinds.
func TestCheckKinds(t *testing.T) {
	kinds := append([]int{1<<32 + 1, 1<<32 + 2, 257, 258}, utmost...)
	for kind := -20; kind <= 20; kind++ {
		kinds = append(kinds, kind)
	}
	for _, kind := range kinds {
		if micro.Check([]api.Micro{{Kind: kind}}, 8) != (kind == 1 || kind == 2) {
			t.Errorf("kind %d", kind)
		}
	}
}

// wrong are steps that may not be, of 16 words, at least one a way.
func wrong() []api.Micro {
	return []api.Micro{
		{}, {Kind: 0, At: 1, Val: 1}, {Kind: 3}, {Kind: -1}, {Kind: math.MinInt}, {Kind: math.MaxInt},
		store(16, 1), store(-1, 1), store(math.MaxInt, 0), store(math.MinInt, 0),
		persist(2), persist(-1), persist(15), persist(math.MaxInt), persist(math.MinInt),
		{Kind: 2, At: 0, Val: 1}, {Kind: 2, At: 1, Val: -1}, {Kind: 2, At: 1, Val: math.MinInt}, {Kind: 2, At: 2, Val: 1},
	}
}

// numbers are how many of so many steps may be asked for.
func numbers(steps int) []int {
	return []int{math.MinInt, -1, 0, 1, steps / 2, steps - 1, steps, steps + 1, 2*steps + 3, math.MaxInt}
}

// P5.1, P5.2: one step that may not be, wherever it stands, also behind all that is to be done: ErrMem, the memory as it was, no words.
func TestWrongSteps(t *testing.T) {
	m := may()[6]
	was := clone(m)
	good := []api.Micro{store(0, 9), persist(1), store(15, 4), persist(0)}
	for i, x := range wrong() {
		if micro.Check([]api.Micro{x}, 16) {
			t.Errorf("step %d may be", i)
		}
		if got, e := micro.Do(m, x); e != api.ErrMem || !equal(got, was) {
			t.Errorf("step %d: Do: %v, %+v", i, e, got)
		}
		for at := range len(good) + 1 {
			l := slices.Insert(slices.Clone(good), at, x)
			if micro.Check(l, 16) {
				t.Errorf("step %d, at %d: may be", i, at)
			}
			if got, e := micro.Run(m, l); e != api.ErrMem || !equal(got, was) {
				t.Errorf("step %d, at %d: Run: %v, %+v", i, at, e, got)
			}
			for _, n := range numbers(len(l)) {
				if got, e := micro.Crash(m, l, n, []int{1, 1}); e != api.ErrMem || len(got) != 0 {
					t.Errorf("step %d, at %d: Crash behind %d: %v, %v", i, at, n, e, got)
				}
			}
		}
	}
	if !micro.Check(good, 16) || !equal(m, was) {
		t.Error("the others may be, and the memory stays")
	}
}

// P5.1, P5.2: a memory that may not be, whatever the steps, none of them too: ErrMem, the memory as it was, no words.
func TestMayNot(t *testing.T) {
	for i, m := range mayNot() {
		was := clone(m)
		for _, x := range []api.Micro{store(0, 1), store(0, 0), persist(0), store(-1, 0), {}} {
			if got, e := micro.Do(m, x); e != api.ErrMem || !equal(got, was) {
				t.Errorf("%d: Do(%v): %v, %+v", i, x, e, got)
			}
		}
		for _, l := range [][]api.Micro{nil, {}, {store(0, 1)}, {persist(0)}, {store(0, 1), persist(0)}, {{}}} {
			if got, e := micro.Run(m, l); e != api.ErrMem || !equal(got, was) {
				t.Errorf("%d: Run(%v): %v, %+v", i, l, e, got)
			}
			for _, n := range numbers(len(l)) {
				if got, e := micro.Crash(m, l, n, []int{1}); e != api.ErrMem || len(got) != 0 {
					t.Errorf("%d: Crash(%v, %d): %v, %v", i, l, n, e, got)
				}
			}
		}
		if !equal(m, was) {
			t.Errorf("%d: what was handed in is another one", i)
		}
	}
}

// done is what the document says of one step, by the calls that it names.
func done(m api.Mem, x api.Micro) (api.Mem, api.Errno) {
	if x.Kind == 1 {
		return pmem.Put(m, x.At, x.Val)
	}
	flushed, e := pmem.Flush(m, x.At)
	if e != api.OK {
		return flushed, e
	}
	return pmem.Fence(flushed)
}

// P5.1: Do, at the first and the last place and line, one behind them and one ahead, of all memories.
func TestDo(t *testing.T) {
	for i, m := range may() {
		for _, at := range []int{-9, -8, -1, 0, 1, 7, 8, 9, len(m.Vol) - 1, len(m.Vol), len(m.Vol)/8 - 1, len(m.Vol) / 8, math.MinInt, math.MaxInt} {
			for _, x := range []api.Micro{store(at, 0), store(at, 77), store(at, math.MinInt), persist(at)} {
				got, e := micro.Do(m, x)
				want, told := done(m, x)
				if e != told || !equal(got, want) || !pmem.Check(got) {
					t.Errorf("%d: Do(%v): %v, %+v", i, x, e, got)
				}
			}
		}
	}
}

// P5.1: written out: a persist keeps its line's, and what was flushed already, wherever; the others stay pending, in order.
func TestDoWords(t *testing.T) {
	m := may()[7]
	got, e := micro.Do(m, persist(1))
	left := []api.Pending{{At: 1, Val: 6}, {At: 2, Val: 8}}
	if e != api.OK || !slices.Equal(got.Pend, left) || got.Per[1] != 5 || got.Per[23] != -1 || got.Per[9] != 7 || got.Per[2] != 0 || !slices.Equal(got.Vol, m.Vol) {
		t.Errorf("%v, %+v", e, got)
	}
	got, e = micro.Do(m, store(23, 4))
	if e != api.OK || !slices.Equal(got.Pend, append(slices.Clone(m.Pend), api.Pending{At: 23, Val: 4})) || got.Vol[23] != 4 || !slices.Equal(got.Per, m.Per) {
		t.Errorf("%v, %+v", e, got)
	}
}

// rows are lists of steps of 16 words: none, one and several, of one kind and of both, in one line and in both.
func rows() [][]api.Micro {
	return [][]api.Micro{
		nil, {}, {store(0, 7)}, {persist(0)}, {store(15, 7)}, {persist(1)},
		{store(0, 7), persist(0)},
		{persist(0), store(0, 7)},
		{store(0, 7), persist(1)},
		{store(1, 5), store(1, 6), store(2, 7)},
		{persist(0), persist(0), persist(1)},
		{store(1, 5), store(9, 6), persist(1), store(9, 7), persist(0)},
		{store(0, 1), store(8, 2), store(7, 3), store(15, 4), persist(0), persist(1), store(0, 0)},
		{store(8, 1), store(8, 2), store(8, 1), store(0, 2), store(8, 0), persist(1), store(0, math.MaxInt)},
	}
}

// P5.2: Run is a Do of each, one behind the other.
func TestRun(t *testing.T) {
	for i, m := range may() {
		for k, l := range rows() {
			want, told := clone(m), api.OK
			if !micro.Check(l, len(m.Vol)) {
				told = api.ErrMem
			} else {
				for _, x := range l {
					want, _ = done(want, x)
				}
			}
			if got, e := micro.Run(m, l); e != told || !equal(got, want) || !pmem.Check(got) {
				t.Errorf("%d: row %d: %v, %+v", i, k, e, got)
			}
		}
	}
}

// keeps are what may be said to be kept of lines, in lists too short and too long, and of numbers below 0 and beyond all.
func keeps() [][]int {
	out := [][]int{nil, {}, {math.MaxInt, math.MaxInt}, {math.MinInt, math.MaxInt}, {9, 9, 9}, slices.Repeat([]int{1}, 600)}
	for a := -1; a <= 4; a++ {
		out = append(out, []int{a})
		for b := -1; b <= 4; b++ {
			out = append(out, []int{a, b})
		}
	}
	return out
}

// P5.2: Crash is that of what the first n make of the memory.
func TestCrash(t *testing.T) {
	for i, m := range may() {
		for k, l := range rows() {
			if !micro.Check(l, len(m.Vol)) {
				if got, e := micro.Crash(m, l, 0, nil); e != api.ErrMem || len(got) != 0 {
					t.Errorf("%d: row %d: %v, %v", i, k, e, got)
				}
				continue
			}
			for _, n := range numbers(len(l)) {
				ahead := clone(m)
				for at, x := range l {
					if at < n {
						ahead, _ = done(ahead, x)
					}
				}
				for _, keep := range keeps() {
					was := slices.Clone(keep)
					want, _ := pmem.Crash(ahead, keep)
					if got, e := micro.Crash(m, l, n, keep); e != api.OK || !slices.Equal(got, want) || !slices.Equal(keep, was) {
						t.Fatalf("%d: row %d: Crash(%d, %v): %v, %v", i, k, n, keep, e, got)
					}
				}
			}
		}
	}
}

// P5.2: written out: what is left at 0, 1 and 8.
func TestCrashWords(t *testing.T) {
	m, _ := pmem.New(make([]int, 16))
	l := []api.Micro{store(0, 1), store(1, 2), store(8, 5), store(0, 3), persist(1), persist(0)}
	for _, c := range []struct {
		n    int
		keep []int
		want [3]int
	}{
		{-1, []int{9, 9}, [3]int{0, 0, 0}},
		{0, []int{9, 9}, [3]int{0, 0, 0}},
		{1, nil, [3]int{0, 0, 0}},
		{1, []int{1}, [3]int{1, 0, 0}},
		{2, []int{1}, [3]int{1, 0, 0}},
		{3, []int{2}, [3]int{1, 2, 0}},
		{3, []int{0, 1}, [3]int{0, 0, 5}},
		{4, []int{9, -1}, [3]int{3, 2, 0}},
		{5, nil, [3]int{0, 0, 5}},
		{5, []int{2}, [3]int{1, 2, 5}},
		{6, []int{-1, -1}, [3]int{3, 2, 5}},
		{7, nil, [3]int{3, 2, 5}},
		{math.MaxInt, nil, [3]int{3, 2, 5}},
	} {
		got, e := micro.Crash(m, l, c.n, c.keep)
		if e != api.OK || len(got) != 16 || [3]int{got[0], got[1], got[8]} != c.want {
			t.Errorf("%d, %v: %v, %v", c.n, c.keep, e, got)
		}
	}
}

// withRoom is a list of those of l, with room behind it, and what tells whether all of that is as it was.
func withRoom[T comparable](l []T, behind T) ([]T, func() bool) {
	whole := append(slices.Clone(l), behind, behind, behind)
	was := slices.Clone(whole)
	return whole[:len(l)], func() bool { return slices.Equal(whole, was) }
}

// spoil changes all of a list, its room too.
func spoil[T any](l []T, with T) {
	for i := range l[:cap(l)] {
		l[:cap(l)][i] = with
	}
}

// P5.1, P5.2: what is handed in stays, its spare room too, in the call and behind it, whatever is done to the answer; the lists of an answer are apart.
func TestHandedIn(t *testing.T) {
	some := append(rows(), []api.Micro{store(0, 1), {}, persist(0)}, []api.Micro{persist(0), store(-1, 0)})
	for i, from := range append(may(), mayNot()...) {
		for k, steps := range some {
			vol, sameVol := withRoom(from.Vol, -77)
			per, samePer := withRoom(from.Per, -78)
			pend, samePend := withRoom(from.Pend, api.Pending{At: -79, Val: 1})
			l, sameSteps := withRoom(steps, store(-80, 2))
			keep, sameKeep := withRoom([]int{1, 2}, -81)
			m := api.Mem{Vol: vol, Per: per, Pend: pend}
			same := func(what string) {
				if !sameVol() || !samePer() || !samePend() || !sameSteps() || !sameKeep() {
					t.Fatalf("%d: row %d: %s: what was handed in is another one", i, k, what)
				}
			}
			answers := map[string]api.Mem{}
			answers["Run"], _ = micro.Run(m, l)
			for at, x := range l {
				answers[fmt.Sprint("Do ", at)], _ = micro.Do(m, x)
			}
			for name, got := range answers {
				same(name)
				spoil(got.Vol, 99)
				if slices.Contains(got.Per, 99) {
					t.Fatalf("%d: row %d: %s: lists share memory", i, k, name)
				}
				spoil(got.Per, 98)
				spoil(got.Pend, api.Pending{At: 97})
				same(name)
			}
			for _, n := range numbers(len(l)) {
				words, _ := micro.Crash(m, l, n, keep)
				spoil(words, 96)
				same("Crash")
			}
			micro.Check(l, len(m.Vol))
			same("Check")
		}
	}
}

// P5.1, P5.2: the lists of an answer are apart, even if those that were handed in are one.
func TestOneList(t *testing.T) {
	for k, l := range append(rows(), []api.Micro{{}}) {
		list := make([]int, 16)
		got, _ := micro.Run(api.Mem{Vol: list, Per: list}, l)
		spoil(got.Vol, 99)
		if len(got.Per) != 16 || slices.Contains(got.Per, 99) || slices.Contains(list, 99) {
			t.Errorf("row %d: lists share memory", k)
		}
	}
}

// model is a memory of two lines by the document's sentences alone: what is seen, what was stored in each line, and how many of these are kept at least.
type model struct {
	seen   [16]int
	stored [2][]api.Micro
	kept   [2]int
}

func (s model) with(x api.Micro) model {
	if x.Kind == 2 {
		s.kept[x.At] = len(s.stored[x.At])
		return s
	}
	s.seen[x.At] = x.Val
	s.stored[x.At/8] = append(slices.Clone(s.stored[x.At/8]), x)
	return s
}

// left are the words that a crash leaves that keeps so many more of each line.
func (s model) left(more [2]int) []int {
	out := make([]int, 16)
	for line, l := range s.stored {
		for _, x := range l[:min(s.kept[line]+max(more[line], 0), len(l))] {
			out[x.At] = x.Val
		}
	}
	return out
}

// P5.3: all rows of up to five steps: what is seen is what was stored last, and wherever it ends what was persisted is kept, and of the rest a beginning, line by line.
func TestAllRows(t *testing.T) {
	first, _ := pmem.New(make([]int, 16))
	var walk func(m api.Mem, s []model, l []api.Micro)
	walk = func(m api.Mem, s []model, l []api.Micro) {
		now := s[len(s)-1]
		all, e := micro.Run(first, l)
		if e != api.OK || !equal(m, all) || !slices.Equal(m.Vol, now.seen[:]) || !slices.Equal(m.Per, now.left([2]int{})) {
			t.Fatalf("%v: %v, %+v, %+v", l, e, m, all)
		}
		if len(l) == 5 {
			for n, ahead := range s {
				for _, keep := range [][2]int{{-1, 0}, {1, 0}, {0, 1}, {2, 1}, {9, 9}} {
					if got, e := micro.Crash(first, l, n, keep[:]); e != api.OK || !slices.Equal(got, ahead.left(keep)) {
						t.Fatalf("%v: Crash(%d, %v): %v, %v", l, n, keep, e, got)
					}
				}
			}
			return
		}
		val := len(l) + 1
		for _, x := range []api.Micro{store(0, val), store(7, val), store(8, val), persist(0), persist(1)} {
			next, e := micro.Do(m, x)
			if e != api.OK {
				t.Fatal(l, x, e)
			}
			walk(next, append(slices.Clone(s), now.with(x)), append(slices.Clone(l), x))
		}
	}
	walk(first, []model{{}}, nil)
}

// P5.3: a long row on the greatest memory: behind a persist of each line all is kept, however it ends.
func TestLongRow(t *testing.T) {
	m, _ := pmem.New(make([]int, api.MaxWords))
	var l []api.Micro
	seen := make([]int, api.MaxWords)
	for i := range 600 {
		at := i * 259 % api.MaxWords
		l = append(l, store(at, i+1))
		seen[at] = i + 1
		if i%40 == 39 {
			l = append(l, persist(at/8))
		}
	}
	stores := len(l)
	for line := range api.MaxWords / 8 {
		l = append(l, persist(line))
	}
	got, e := micro.Run(m, l)
	if e != api.OK || len(got.Pend) != 0 || !slices.Equal(got.Vol, seen) || !slices.Equal(got.Per, seen) {
		t.Error(e, len(got.Pend))
	}
	if words, e := micro.Crash(m, l, len(l), nil); e != api.OK || !slices.Equal(words, seen) {
		t.Error("Crash behind all", e)
	}
	if words, e := micro.Crash(m, l, stores, slices.Repeat([]int{600}, 512)); e != api.OK || !slices.Equal(words, seen) {
		t.Error("Crash ahead of the last persists that keeps all", e)
	}
	if words, e := micro.Crash(m, l, stores, nil); e != api.OK || slices.Equal(words, seen) {
		t.Error("Crash ahead of the last persists that keeps nothing", e)
	}
}
