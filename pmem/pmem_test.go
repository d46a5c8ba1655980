package pmem_test

import (
	"math"
	"slices"
	"testing"

	"lamplighter/api"
	"lamplighter/pmem"
)

// equal tells whether two memories are alike; a list without elements may be nil or not.
func equal(a, b api.Mem) bool {
	return slices.Equal(a.Vol, b.Vol) && slices.Equal(a.Per, b.Per) && slices.Equal(a.Pend, b.Pend)
}

func clone(m api.Mem) api.Mem {
	return api.Mem{Vol: slices.Clone(m.Vol), Per: slices.Clone(m.Per), Pend: slices.Clone(m.Pend)}
}

// memory has words places, with pend behind a Per of zeros.
func memory(words int, pend ...api.Pending) api.Mem {
	m := api.Mem{Vol: make([]int, words), Per: make([]int, words), Pend: pend}
	for _, p := range pend {
		m.Vol[p.At] = p.Val
	}
	return m
}

func store(at, val int) api.Pending   { return api.Pending{At: at, Val: val} }
func flushed(at, val int) api.Pending { return api.Pending{At: at, Val: val, Flushed: true} }

// may are memories that may be, ordinary ones and those at the edges.
func may() []api.Mem {
	last := api.MaxWords - 1
	return []api.Mem{
		{},
		{Vol: []int{}, Per: []int{}, Pend: []api.Pending{}},
		memory(8),
		memory(24),
		memory(api.MaxWords),
		memory(8, store(0, 1)),
		memory(8, flushed(7, -1)),
		memory(8, store(3, 0)),
		memory(8, store(0, 1), store(0, 1)),
		memory(8, store(0, 1), store(1, 2), store(0, 3)),
		memory(8, flushed(0, 1), flushed(1, 2), store(0, 3)),
		memory(16, store(0, 1), flushed(8, 2), store(7, 3), store(15, math.MinInt)),
		memory(16, store(7, 1), flushed(8, 2)),
		memory(24, flushed(9, 1), store(0, 5), flushed(10, 2), store(9, 3), flushed(23, 4), store(0, 6), store(23, 7)),
		memory(api.MaxWords, store(last, 1), store(0, math.MaxInt), flushed(last-8, 2), store(last, 3), store(last-8, 9)),
	}
}

// mayNot are memories that may not be, at least one a way.
func mayNot() []api.Mem {
	long := memory(api.MaxWords + 8)
	odd := memory(12)
	bad := func(pend ...api.Pending) api.Mem {
		return api.Mem{Vol: make([]int, 16), Per: make([]int, 16), Pend: pend}
	}
	change := func(m api.Mem, f func(*api.Mem)) api.Mem {
		m = clone(m)
		f(&m)
		return m
	}
	return []api.Mem{
		long, odd, memory(1), memory(7), memory(9), memory(api.MaxWords - 1), memory(api.MaxWords + 1),
		{Vol: make([]int, 8)}, {Per: make([]int, 8)},
		{Vol: make([]int, 8), Per: make([]int, 16)}, {Vol: make([]int, 16), Per: make([]int, 8)},
		{Vol: make([]int, 8), Per: make([]int, 7)}, {Vol: make([]int, 8), Per: make([]int, 9)},
		{Pend: []api.Pending{{}}},
		{Vol: make([]int, 16), Per: make([]int, 8), Pend: []api.Pending{store(9, 0)}},
		{Vol: make([]int, 8), Per: make([]int, 16), Pend: []api.Pending{store(9, 0)}},
		bad(store(16, 0)), bad(store(-1, 0)), bad(store(math.MaxInt, 0)), bad(store(math.MinInt, 0)), bad(flushed(16, 0)), bad(store(0, 0), store(-8, 0)),
		bad(store(0, 0), flushed(0, 0)), bad(store(0, 0), flushed(7, 0)), bad(store(8, 0), store(0, 0), flushed(15, 0)),
		bad(flushed(0, 0), store(1, 0), flushed(2, 0)), bad(store(1, 0), flushed(8, 0), flushed(2, 0)),
		bad(store(0, 1)), bad(flushed(15, 1)), bad(store(0, 0), store(0, 1)),
		change(memory(8), func(m *api.Mem) { m.Vol[0] = 1 }),
		change(memory(8), func(m *api.Mem) { m.Per[7] = 1 }),
		change(memory(8, store(0, 1), store(0, 2)), func(m *api.Mem) { m.Vol[0] = 1 }),
		change(memory(8, store(0, 1), store(1, 2)), func(m *api.Mem) { m.Pend = m.Pend[:1] }),
		change(memory(8, store(0, 1), store(0, 2)), func(m *api.Mem) { slices.Reverse(m.Pend) }),
		change(memory(16, store(0, 1)), func(m *api.Mem) { m.Vol[9] = 4 }),
		change(memory(api.MaxWords), func(m *api.Mem) { m.Vol[api.MaxWords-1] = 4 }),
	}
}

// P4.1: New has Vol and Per of the words, of memory of their own, and asks for 0 to MaxWords of them, in whole lines.
func TestNew(t *testing.T) {
	for n := 0; n <= api.MaxWords+17; n++ {
		words := make([]int, n)
		for i := range words {
			words[i] = i*i - 7
		}
		m, e := pmem.New(words)
		if n%8 != 0 || n > 4096 {
			if e != api.ErrMem || !equal(m, api.Mem{}) {
				t.Fatalf("%d words: %v, %d", n, e, len(m.Vol))
			}
			continue
		}
		if e != api.OK || !slices.Equal(m.Vol, words) || !slices.Equal(m.Per, words) || len(m.Pend) != 0 || !pmem.Check(m) {
			t.Fatalf("%d words: %v, %v", n, e, m)
		}
		if n > 0 {
			m.Vol[0]++
			if m.Per[0] != -7 || words[0] != -7 {
				t.Fatalf("%d words: lists share memory", n)
			}
			m.Per[0]--
			if words[0] != -7 {
				t.Fatalf("%d words: Per is what was handed in", n)
			}
		}
	}
	if m, e := pmem.New(make([]int, 1<<20)); e != api.ErrMem || !equal(m, api.Mem{}) {
		t.Error("a long list", e)
	}
}

// P4.1: which memories may be.
func TestCheck(t *testing.T) {
	for i, m := range may() {
		if !pmem.Check(m) {
			t.Errorf("%d of those that may be: %+v", i, m)
		}
	}
	for i, m := range mayNot() {
		if pmem.Check(m) {
			t.Errorf("%d of those that may not be: %+v", i, m)
		}
	}
}

// P4.1, P4.2, P4.3: each tells ErrMem, if m may not be, the memory as it was, and no words.
func TestMayNot(t *testing.T) {
	for i, m := range mayNot() {
		was := clone(m)
		for name, call := range map[string]func() (api.Mem, api.Errno){
			"Put":         func() (api.Mem, api.Errno) { return pmem.Put(m, 0, 1) },
			"Put, place":  func() (api.Mem, api.Errno) { return pmem.Put(m, -1, 1) },
			"Flush":       func() (api.Mem, api.Errno) { return pmem.Flush(m, 0) },
			"Flush, line": func() (api.Mem, api.Errno) { return pmem.Flush(m, -1) },
			"Fence":       func() (api.Mem, api.Errno) { return pmem.Fence(m) },
			"Evict":       func() (api.Mem, api.Errno) { return pmem.Evict(m, 0) },
			"Evict, line": func() (api.Mem, api.Errno) { return pmem.Evict(m, 99) },
			"Sync":        func() (api.Mem, api.Errno) { return pmem.Sync(m) },
		} {
			if got, e := call(); e != api.ErrMem || !equal(got, was) {
				t.Errorf("%d, %s: %v, %+v", i, name, e, got)
			}
		}
		for _, keep := range [][]int{nil, {1}, make([]int, 600)} {
			if l, e := pmem.Crash(m, keep); e != api.ErrMem || len(l) != 0 {
				t.Errorf("%d, Crash: %v, %v", i, e, l)
			}
		}
		if !equal(m, was) {
			t.Errorf("%d: what was handed in is another one now", i)
		}
	}
}

// P4.1: Put at all places of memories, the first and the last one among them; one more, and those below 0, are no places.
func TestPut(t *testing.T) {
	for i, m := range may() {
		for _, val := range []int{0, 1, -1, math.MaxInt, math.MinInt} {
			for at := -1; at <= len(m.Vol); at += max(1, len(m.Vol)/300) {
				checkPut(t, i, m, at, val)
			}
			for _, at := range []int{-1, 0, len(m.Vol) - 1, len(m.Vol), -8, math.MaxInt, math.MinInt, 1 << 62} {
				checkPut(t, i, m, at, val)
			}
		}
	}
}

func checkPut(t *testing.T, i int, m api.Mem, at, val int) {
	t.Helper()
	got, e := pmem.Put(m, at, val)
	want, told := clone(m), api.ErrMem
	if at >= 0 && at < len(m.Vol) {
		want.Vol[at], told = val, api.OK
		want.Pend = append(want.Pend, api.Pending{At: at, Val: val})
	}
	if e != told || !equal(got, want) || !pmem.Check(got) {
		t.Fatalf("%d: Put(%d, %d): %v, %+v", i, at, val, e, got)
	}
}

// lines are numbers of lines that are there, and such as are not, of so many words.
func lines(words int) []int {
	return []int{-1, 0, 1, 2, 3, words/8 - 1, words / 8, words/8 + 1, words, -8, math.MaxInt, math.MinInt, math.MaxInt / 8, 1 << 61}
}

// part is m with those of Pend kept that stand at the places that f tells.
func part(m api.Mem, f func(p api.Pending) bool) api.Mem {
	out := api.Mem{Vol: slices.Clone(m.Vol), Per: slices.Clone(m.Per)}
	for _, p := range m.Pend {
		if f(p) {
			out.Per[p.At] = p.Val
		} else {
			out.Pend = append(out.Pend, p)
		}
	}
	return out
}

// P4.2: Flush and Evict of lines that are there, and of such as are not.
func TestFlushEvict(t *testing.T) {
	for i, m := range may() {
		for _, line := range lines(len(m.Vol)) {
			there := line >= 0 && line < len(m.Vol)/8
			in := func(p api.Pending) bool { return there && line*8 <= p.At && p.At < line*8+8 }
			told := api.ErrMem
			if there {
				told = api.OK
			}
			flush := clone(m)
			for k, p := range flush.Pend {
				flush.Pend[k].Flushed = p.Flushed || in(p)
			}
			if got, e := pmem.Flush(m, line); e != told || !equal(got, flush) || !pmem.Check(got) {
				t.Errorf("%d: Flush(%d): %v, %+v", i, line, e, got)
			}
			if got, e := pmem.Evict(m, line); e != told || !equal(got, part(m, in)) || !pmem.Check(got) {
				t.Errorf("%d: Evict(%d): %v, %+v", i, line, e, got)
			}
		}
	}
}

// P4.2: Fence keeps what is Flushed, Sync all.
func TestFenceSync(t *testing.T) {
	for i, m := range may() {
		want := part(m, func(p api.Pending) bool { return p.Flushed })
		if got, e := pmem.Fence(m); e != api.OK || !equal(got, want) || !pmem.Check(got) {
			t.Errorf("%d: Fence: %v, %+v", i, e, got)
		}
		want = api.Mem{Vol: m.Vol, Per: m.Vol}
		if got, e := pmem.Sync(m); e != api.OK || !equal(got, want) || !pmem.Check(got) {
			t.Errorf("%d: Sync: %v, %+v", i, e, got)
		}
	}
	m := memory(24, flushed(9, 1), store(0, 5), flushed(10, 2), store(9, 3), flushed(23, 4), store(0, 6), store(23, 7))
	got, _ := pmem.Fence(m)
	if !slices.Equal(got.Pend, []api.Pending{store(0, 5), store(9, 3), store(0, 6), store(23, 7)}) || got.Per[9] != 1 || got.Per[10] != 2 || got.Per[23] != 4 || got.Per[0] != 0 || got.Vol[23] != 7 {
		t.Errorf("%+v", got)
	}
}

// left are the words that Crash leaves, found line by line.
func left(m api.Mem, keep []int) []int {
	out := slices.Clone(m.Per)
	for line := range len(m.Vol) / 8 {
		n := 0
		for _, p := range m.Pend {
			if p.At/8 == line {
				if line < len(keep) && n < keep[line] {
					out[p.At] = p.Val
				}
				n++
			}
		}
	}
	return out
}

// keeps are lists of all numbers from -1 to 4 for up to three lines, lists too short and too long among them, and the utmost numbers.
func keeps() [][]int {
	out := [][]int{nil, {}, make([]int, 512), make([]int, 513), slices.Repeat([]int{1}, 512), slices.Repeat([]int{1}, 513), slices.Repeat([]int{99}, 1000)}
	for _, n := range []int{math.MinInt, math.MaxInt} {
		out = append(out, []int{n}, []int{n, n, n}, slices.Repeat([]int{n}, 512), slices.Repeat([]int{n}, 600))
	}
	from := [][]int{nil}
	for range 4 {
		var next [][]int
		for _, l := range from {
			for n := -1; n <= 4; n++ {
				next = append(next, append(slices.Clone(l), n))
			}
		}
		out = append(out, next...)
		from = next
	}
	return out
}

// P4.3: Crash keeps of each line as many as keep says.
func TestCrash(t *testing.T) {
	for i, m := range may() {
		for _, keep := range keeps() {
			if len(m.Vol) == api.MaxWords && len(keep) > 2 && len(keep) < 500 {
				continue
			}
			was := slices.Clone(keep)
			if got, e := pmem.Crash(m, keep); e != api.OK || !slices.Equal(got, left(m, keep)) || !slices.Equal(keep, was) {
				t.Fatalf("%d: Crash(%v): %v, %v", i, keep, e, got)
			}
		}
	}
}

// P4.3: written out: of two lines' stores, beside each other, those are kept that came first in the line, flushed or not.
func TestCrashWords(t *testing.T) {
	m := memory(16, flushed(8, 5), store(0, 1), store(1, 2), store(8, 6), store(0, 3))
	for _, c := range []struct {
		keep []int
		want [3]int // at 0, 1, 8
	}{
		{nil, [3]int{0, 0, 0}},
		{[]int{1}, [3]int{1, 0, 0}},
		{[]int{2, -1}, [3]int{1, 2, 0}},
		{[]int{3, 1}, [3]int{3, 2, 5}},
		{[]int{0, 2}, [3]int{0, 0, 6}},
		{[]int{-4, 3}, [3]int{0, 0, 6}},
		{[]int{4, 0, 1}, [3]int{3, 2, 0}},
	} {
		l, e := pmem.Crash(m, c.keep)
		if e != api.OK || len(l) != 16 || [3]int{l[0], l[1], l[8]} != c.want {
			t.Errorf("%v: %v, %v", c.keep, e, l)
		}
	}
}

// spare is m with room behind its lists that must stay as it is, and what tells whether it, and m, did.
func spare(m api.Mem) (api.Mem, func() bool) {
	vol := append(slices.Clone(m.Vol), -77, -77, -77, -77)
	per := append(slices.Clone(m.Per), -78, -78, -78, -78)
	pend := append(slices.Clone(m.Pend), store(-79, 1), store(-79, 2), store(-79, 3))
	whole := clone(api.Mem{Vol: vol, Per: per, Pend: pend})
	return api.Mem{Vol: vol[:len(m.Vol)], Per: per[:len(m.Per)], Pend: pend[:len(m.Pend)]}, func() bool {
		return equal(api.Mem{Vol: vol, Per: per, Pend: pend}, whole)
	}
}

// calls are all that make a memory of a memory.
func calls() []func(api.Mem) (api.Mem, api.Errno) {
	return []func(api.Mem) (api.Mem, api.Errno){
		func(m api.Mem) (api.Mem, api.Errno) { return pmem.Put(m, len(m.Vol)-1, 5) },
		func(m api.Mem) (api.Mem, api.Errno) { return pmem.Put(m, 0, 6) },
		func(m api.Mem) (api.Mem, api.Errno) { return pmem.Put(m, -1, 6) },
		func(m api.Mem) (api.Mem, api.Errno) { return pmem.Flush(m, 0) },
		func(m api.Mem) (api.Mem, api.Errno) { return pmem.Flush(m, -1) },
		func(m api.Mem) (api.Mem, api.Errno) { return pmem.Evict(m, 0) },
		func(m api.Mem) (api.Mem, api.Errno) { return pmem.Evict(m, -1) },
		pmem.Fence,
		pmem.Sync,
	}
}

// spoil changes all that a memory has, its spare room too.
func spoil(m api.Mem) {
	for _, l := range [][]int{m.Vol, m.Per} {
		for i := range l[:cap(l)] {
			l[:cap(l)][i] = 12345
		}
	}
	for i := range m.Pend[:cap(m.Pend)] {
		m.Pend[:cap(m.Pend)][i] = store(12345, 12345)
	}
}

// P4.1 to P4.3: what is handed in stays as it was, its spare room too, in the call and behind it, whatever is done to the answer.
func TestHandedIn(t *testing.T) {
	for i, m := range append(may(), mayNot()...) {
		for k, call := range calls() {
			m, same := spare(m)
			got, _ := call(m)
			if !same() {
				t.Fatalf("%d, call %d: what was handed in is another one", i, k)
			}
			spoil(got)
			if !same() {
				t.Fatalf("%d, call %d: the answer is in what was handed in", i, k)
			}
		}
		m, same := spare(m)
		l, _ := pmem.Crash(m, []int{1, 1, 1})
		for i := range l[:cap(l)] {
			l[:cap(l)][i] = 12345
		}
		pmem.Check(m)
		if !same() {
			t.Fatalf("%d: Crash or Check: what was handed in is another one", i)
		}
	}
}

// P4.1, P4.2: the lists of an answer are apart, even if those that were handed in are one.
func TestOneList(t *testing.T) {
	for k, call := range calls() {
		l := make([]int, 16)
		got, _ := call(api.Mem{Vol: l, Per: l})
		for i := range got.Vol {
			got.Vol[i] = 99
		}
		if len(got.Per) != 16 || slices.Contains(got.Per, 99) || slices.Contains(l, 99) {
			t.Errorf("call %d: lists share memory", k)
		}
	}
}

// model is a memory by the document's sentences alone: what was stored in each line, in order, how many of these are flushed, and how many kept.
type model struct {
	seen          [16]int
	stored        [2][]api.Pending
	flushed, kept [2]int
}

func (s model) per(more [2]int) []int {
	out := make([]int, 16)
	for line := range s.stored {
		for _, p := range s.stored[line][:min(s.kept[line]+max(more[line], 0), len(s.stored[line]))] {
			out[p.At] = p.Val
		}
	}
	return out
}

// step does the x-th of small deeds, to both.
func step(t *testing.T, m api.Mem, s model, x, val int) (api.Mem, model) {
	var e api.Errno
	line := x % 2
	switch x / 2 {
	case 0, 1: // two places a line
		at := line*8 + x/2*7
		m, e = pmem.Put(m, at, val)
		s.seen[at] = val
		s.stored[line] = append(slices.Clone(s.stored[line]), store(at, val))
	case 2:
		m, e = pmem.Flush(m, line)
		s.flushed[line] = len(s.stored[line])
	case 3:
		m, e = pmem.Evict(m, line)
		s.kept[line] = len(s.stored[line])
	case 4:
		if line == 0 {
			m, e = pmem.Fence(m)
			s.kept = [2]int{max(s.kept[0], s.flushed[0]), max(s.kept[1], s.flushed[1])}
		} else {
			m, e = pmem.Sync(m)
			s.kept = [2]int{len(s.stored[0]), len(s.stored[1])}
		}
	}
	if e != api.OK {
		t.Fatal(x, e)
	}
	return m, s
}

// P4.4: all rows of up to five deeds: what was stored is seen at once, a Flush and a Fence keep it at the latest, and of a line a beginning of what was stored is kept, whatever keep is.
func TestAllRows(t *testing.T) {
	var walk func(m api.Mem, s model, depth int)
	walk = func(m api.Mem, s model, depth int) {
		if !pmem.Check(m) || !slices.Equal(m.Vol, s.seen[:]) || !slices.Equal(m.Per, s.per([2]int{})) {
			t.Fatalf("%+v, %+v", m, s)
		}
		if depth == 5 {
			for a := -1; a <= 5; a += 2 {
				for b := 0; b <= 4; b++ {
					if l, e := pmem.Crash(m, []int{a, b}); e != api.OK || !slices.Equal(l, s.per([2]int{a, b})) {
						t.Fatalf("%d, %d: %v of %+v, %+v", a, b, l, m, s)
					}
				}
			}
			return
		}
		for x := range 10 {
			next, now := step(t, m, s, x, depth+1)
			walk(next, now, depth+1)
		}
	}
	m, _ := pmem.New(make([]int, 16))
	walk(m, model{}, 0)
}

// P4.4: a long row of deeds on the greatest memory: behind a Flush of each line and a Fence all is kept.
func TestLongRow(t *testing.T) {
	m, _ := pmem.New(make([]int, api.MaxWords))
	for i := range 600 {
		at := i * 37 * 7 % api.MaxWords
		next, e := pmem.Put(m, at, i+1)
		if e != api.OK || next.Vol[at] != i+1 || next.Per[at] != m.Per[at] {
			t.Fatal(i, e)
		}
		m = next
		if i%50 == 49 {
			m, _ = pmem.Flush(m, at/8)
		}
	}
	for line := range api.MaxWords / api.Line {
		m, _ = pmem.Flush(m, line)
	}
	m, e := pmem.Fence(m)
	l, _ := pmem.Crash(m, nil)
	if e != api.OK || len(m.Pend) != 0 || !slices.Equal(m.Per, m.Vol) || !slices.Equal(l, m.Vol) {
		t.Error(e, len(m.Pend))
	}
}
