package alloc_test

import (
	"math"
	"slices"
	"testing"

	"lamplighter/alloc"
	"lamplighter/api"
)

// numbers are such as may be free blocks, and such as may not, around the edges, and far off.
var numbers = []int{math.MinInt, math.MinInt + 1, -1 << 60, -1 << 32, 1 - 1<<32, -4096, -257, -256, -255, -254, -2, -1, 0, 1, 2, 3, 7, 100, 127, 128, 129, 253, 254, 255, 256, 257, 258, 300, 511, 512, 513, 4096, 1 << 16, 1 << 32, 1<<32 + 1, 1<<32 + 255, 1 << 60, math.MaxInt - 1, math.MaxInt}

// counts are numbers of blocks that may be asked for, and such as may not.
var counts = append([]int{-3, 4, 5, 6, 8}, numbers...)

// isBlock is the document's '1 to MaxBlocks - 1'.
func isBlock(x int) bool { return 1 <= x && x <= 255 }

// mayBe is the document's sentence on free blocks: each is one, and stands above all ahead of it.
func mayBe(free []int) bool {
	for i, x := range free {
		if !isBlock(x) || slices.ContainsFunc(free[:i], func(y int) bool { return y >= x }) {
			return false
		}
	}
	return true
}

// wantFree is the document's sentence on Free.
func wantFree(blocks int, used []int) ([]int, api.Errno) {
	if blocks < 1 || blocks > 256 {
		return nil, api.ErrArg
	}
	out := upTo(blocks - 1)
	for _, x := range used {
		out = slices.DeleteFunc(out, func(y int) bool { return y == x })
	}
	return out, api.OK
}

// wantTake is the document's sentence on Take.
func wantTake(free []int, n int) ([]int, []int, api.Errno) {
	switch {
	case !mayBe(free), n < 0:
		return nil, free, api.ErrArg
	case len(free) < n:
		return nil, free, api.ErrFull
	}
	return free[:n], free[n:], api.OK
}

// wantGive is the document's sentence on Give.
func wantGive(free []int, block int) ([]int, api.Errno) {
	if !mayBe(free) || !isBlock(block) || slices.Contains(free, block) {
		return free, api.ErrArg
	}
	out := append(slices.Clone(free), block)
	slices.Sort(out)
	return out, api.OK
}

// upTo are the numbers from 1 to n.
func upTo(n int) []int {
	var out []int
	for x := 1; x <= n; x++ {
		out = append(out, x)
	}
	return out
}

// every are those of 1 to 255 that are so far from each other.
func every(first, far int) []int {
	var out []int
	for x := first; x <= 255; x += far {
		out = append(out, x)
	}
	return out
}

// rights are free blocks that may be: none, one, all, and some of many kinds.
func rights() [][]int {
	out := [][]int{nil, {}, {1}, {2}, {128}, {254}, {255}, {1, 2}, {1, 255}, {254, 255}, {100, 101}, {2, 4, 5}, {6, 7}, {1, 128, 255}, {3, 9, 27, 81, 243}, upTo(255), upTo(254), upTo(9), every(2, 1), every(1, 2), every(2, 2), every(7, 19), every(250, 1)}
	for _, hole := range []int{2, 77, 254} {
		out = append(out, slices.DeleteFunc(upTo(255), func(x int) bool { return x == hole }))
	}
	return out
}

// places are those of a list at the beginning, in the midst and at the end.
func places(l []int) []int {
	out := []int{0, 1, 2, len(l) / 2, len(l) - 3, len(l) - 2, len(l) - 1}
	out = slices.DeleteFunc(out, func(i int) bool { return i < 0 || i >= len(l) })
	slices.Sort(out)
	return slices.Compact(out)
}

// wrongs are free blocks that may not be, for one reason each: a number that is no block, or a block out of its place.
func wrongs() [][]int {
	var out [][]int
	for _, right := range rights() {
		for _, i := range places(right) {
			for _, x := range numbers {
				if !isBlock(x) {
					out = append(out, with(right, i, x))
				}
			}
			out = append(out, slices.Insert(slices.Clone(right), i, right[i]))
			for _, j := range places(right)[:slices.Index(places(right), i)] {
				out = append(out, with(right, i, right[j]), with(right, j, right[i]), with(with(right, i, right[j]), j, right[i]))
			}
		}
		if len(right) > 1 {
			back := slices.Clone(right)
			slices.Reverse(back)
			out = append(out, back, slices.Concat(right, right), append(slices.Clone(right[1:]), right[0]))
		}
	}
	return append(out, upTo(256), upTo(300), append([]int{0}, upTo(255)...), make([]int, 5), slices.Repeat([]int{9}, 300))
}

// with is l with x at i.
func with(l []int, i, x int) []int {
	out := slices.Clone(l)
	out[i] = x
	return out
}

// short are all lists of up to n of a few numbers at the edges.
func short(n int) [][]int {
	out := [][]int{nil}
	for from := 0; n > 0; n-- {
		to := len(out)
		for ; from < to; from++ {
			for _, x := range []int{math.MinInt, -1, 0, 1, 2, 3, 254, 255, 256, math.MaxInt} {
				out = append(out, append(slices.Clone(out[from]), x))
			}
		}
	}
	return out
}

// checks holds Check against the document.
func checks(t *testing.T, free []int) {
	t.Helper()
	if ok := alloc.Check(free); ok != mayBe(free) {
		t.Fatalf("Check(%v): %v", free, ok)
	}
}

// frees holds Free against the document.
func frees(t *testing.T, blocks int, used []int) {
	t.Helper()
	want, told := wantFree(blocks, used)
	l, e := alloc.Free(blocks, used)
	if !slices.Equal(l, want) || e != told {
		t.Fatalf("Free(%d, %v): %v, %v, not %v, %v", blocks, used, l, e, want, told)
	}
}

// takes holds Take against the document.
func takes(t *testing.T, free []int, n int) {
	t.Helper()
	taken, rest, told := wantTake(free, n)
	a, b, e := alloc.Take(free, n)
	if !slices.Equal(a, taken) || !slices.Equal(b, rest) || e != told {
		t.Fatalf("Take(%v, %d): %v, %v, %v, not %v, %v, %v", free, n, a, b, e, taken, rest, told)
	}
}

// gives holds Give against the document.
func gives(t *testing.T, free []int, block int) {
	t.Helper()
	want, told := wantGive(free, block)
	l, e := alloc.Give(free, block)
	if !slices.Equal(l, want) || e != told {
		t.Fatalf("Give(%v, %d): %v, %v, not %v, %v", free, block, l, e, want, told)
	}
}

// P10.1: what may be and what may not, written out.
func TestMayBe(t *testing.T) {
	for i, c := range []struct {
		free []int
		ok   bool
	}{
		{nil, true}, {[]int{}, true}, {[]int{1}, true}, {[]int{2}, true}, {[]int{255}, true}, {[]int{1, 2}, true}, {[]int{1, 255}, true}, {[]int{2, 4, 5}, true}, {upTo(255), true}, {upTo(254), true},
		{[]int{0}, false}, {[]int{-1}, false}, {[]int{256}, false}, {[]int{math.MinInt}, false}, {[]int{math.MaxInt}, false}, {[]int{1<<32 + 1}, false},
		{[]int{2, 2}, false}, {[]int{3, 2}, false}, {[]int{1, 2, 2, 3}, false}, {[]int{2, 3, 2}, false}, {[]int{1, 3, 2}, false}, {[]int{2, 1, 3}, false}, {[]int{5, 6, 7, 5}, false}, {[]int{255, 255}, false}, {[]int{255, 1}, false},
		{[]int{0, 1}, false}, {[]int{1, 0}, false}, {[]int{-1, 1}, false}, {[]int{-2, -1}, false}, {[]int{1, 256}, false}, {[]int{256, 1}, false}, {[]int{255, 256}, false}, {[]int{1, 0, 2}, false}, {[]int{1, 256, 2}, false}, {[]int{256, 257}, false}, {[]int{math.MinInt, 1, 2}, false}, {[]int{1, 2, math.MaxInt}, false},
		{upTo(256), false}, {append([]int{0}, upTo(255)...), false}, {slices.Concat(upTo(255), upTo(1)), false}, {make([]int, 3), false},
	} {
		if alloc.Check(c.free) != c.ok || mayBe(c.free) != c.ok {
			t.Errorf("row %d: %v", i, alloc.Check(c.free))
		}
	}
}

// P10.1: free blocks that may be, and such as may not for one reason alone; and all short lists.
func TestCheck(t *testing.T) {
	for _, l := range rights() {
		checks(t, l)
		if !alloc.Check(l) {
			t.Fatalf("%v", l)
		}
	}
	for _, l := range wrongs() {
		checks(t, l)
		if alloc.Check(l) {
			t.Fatalf("%v", l)
		}
	}
	for _, l := range short(4) {
		checks(t, l)
	}
	for n := range 600 {
		for first := -2; first < 4; first++ {
			l := upTo(n)
			for i := range l {
				l[i] += first - 1
			}
			checks(t, l)
		}
	}
}

// P10.1: each number at each place of all blocks, and of a few, one at a time, with all else right.
func TestOneNumber(t *testing.T) {
	for _, right := range rights() {
		for i := range right {
			for _, x := range append([]int{right[i] - 1, right[i] + 1}, numbers...) {
				checks(t, with(right, i, x))
				if i%50 == 0 {
					checks(t, slices.Insert(slices.Clone(right), i, x))
				}
			}
		}
		for _, x := range numbers {
			checks(t, append(slices.Clone(right), x))
		}
	}
}

// P10.1: Free, written out.
func TestFreeWritten(t *testing.T) {
	for i, c := range []struct {
		blocks     int
		used, free []int
		e          api.Errno
	}{
		{1, nil, nil, api.OK}, {1, []int{0, 1, 2}, nil, api.OK}, {2, nil, []int{1}, api.OK}, {2, []int{1}, nil, api.OK}, {2, []int{0, -1, 2, 256}, []int{1}, api.OK},
		{5, nil, []int{1, 2, 3, 4}, api.OK}, {5, []int{0}, []int{1, 2, 3, 4}, api.OK}, {5, []int{4}, []int{1, 2, 3}, api.OK}, {5, []int{1}, []int{2, 3, 4}, api.OK}, {5, []int{3, 2, 3, 3}, []int{1, 4}, api.OK}, {5, []int{4, 3, 2, 1, 0}, nil, api.OK}, {5, []int{5, 6, 1 << 32, 1<<32 + 1, math.MinInt, math.MaxInt}, []int{1, 2, 3, 4}, api.OK}, {8, []int{3, 1, 3, 9, -1, 0}, []int{2, 4, 5, 6, 7}, api.OK},
		{256, nil, upTo(255), api.OK}, {256, []int{0, 255, 256}, upTo(254), api.OK}, {256, upTo(254), []int{255}, api.OK}, {256, upTo(300), nil, api.OK}, {255, nil, upTo(254), api.OK},
		{0, nil, nil, api.ErrArg}, {0, []int{1}, nil, api.ErrArg}, {257, nil, nil, api.ErrArg}, {257, upTo(100), nil, api.ErrArg}, {-1, nil, nil, api.ErrArg}, {-256, []int{0}, nil, api.ErrArg}, {math.MinInt, nil, nil, api.ErrArg}, {math.MaxInt, nil, nil, api.ErrArg}, {1 << 32, nil, nil, api.ErrArg}, {1<<32 + 4, nil, nil, api.ErrArg},
	} {
		if l, e := alloc.Free(c.blocks, c.used); !slices.Equal(l, c.free) || e != c.e {
			t.Errorf("row %d: %v, %v", i, l, e)
		}
	}
}

// usedOf are used blocks of so many: none, all, one, some, some twice, and such as are no blocks, in many orders.
func usedOf(blocks int) [][]int {
	all := upTo(blocks - 1)
	out := [][]int{nil, {}, {0}, {1}, {blocks - 2}, {blocks - 1}, {blocks}, {blocks + 1}, all, slices.Concat(all, all), append([]int{0}, all...), append(slices.Clone(all), blocks), numbers, {5, 5}, {9, 3, 9, 3, 1, 3}, every(1, 3), every(2, 2), slices.Concat(every(2, 5), numbers, every(1, 7))}
	for _, l := range slices.Clone(out) {
		back := slices.Clone(l)
		slices.Reverse(back)
		out = append(out, back, slices.Concat(l, back), slices.Concat(back[len(l)/2:], l), stridden(l, 7), stridden(l, 101))
	}
	for _, x := range numbers {
		out = append(out, []int{x}, []int{x, 2, x}, []int{2, x, 1}, append(slices.Clone(all), x), append([]int{x}, all...))
	}
	return out
}

// stridden is l in another order: the first one, and those that are so far behind it, and then likewise from the second one on.
func stridden(l []int, far int) []int {
	var out []int
	for first := range far {
		for i := first; i < len(l); i += far {
			out = append(out, l[i])
		}
	}
	return out
}

// P10.1: Free of 1 to 256 blocks, and around these, with all kinds of used ones.
func TestFree(t *testing.T) {
	for _, blocks := range append([]int{1, 2, 3, 4, 5, 9, 10, 100, 254, 255, 256}, counts...) {
		for _, used := range usedOf(min(max(blocks, 1), 300)) {
			frees(t, blocks, used)
		}
	}
	for blocks := -3; blocks < 300; blocks++ {
		for _, used := range [][]int{nil, {0}, {blocks - 1}, {blocks, blocks - 1, 1}, upTo(blocks), every(3, 4)} {
			frees(t, blocks, used)
		}
	}
	for _, used := range short(4) {
		for _, blocks := range []int{0, 1, 2, 3, 4, 255, 256, 257} {
			if blocks < 5 || len(used) < 3 {
				frees(t, blocks, used)
			}
		}
	}
}

// P10.1: each block alone used, and each alone not used.
func TestFreeOne(t *testing.T) {
	for x := 1; x < 256; x++ {
		rest := slices.DeleteFunc(upTo(255), func(y int) bool { return y == x })
		if l, e := alloc.Free(256, []int{x}); !slices.Equal(l, rest) || e != api.OK {
			t.Fatalf("%d: %v, %v", x, l, e)
		}
		if l, e := alloc.Free(256, rest); !slices.Equal(l, []int{x}) || e != api.OK {
			t.Fatalf("%d: %v, %v", x, l, e)
		}
	}
}

// P10.1: what Free answers may be.
func TestFreeMayBe(t *testing.T) {
	for blocks := 1; blocks < 257; blocks++ {
		for _, used := range [][]int{nil, every(1, 2), every(2, 2), {9, 9, 1, -1}, upTo(255)} {
			if l, e := alloc.Free(blocks, used); !alloc.Check(l) || e != api.OK {
				t.Fatalf("%d, %v: %v, %v", blocks, used, l, e)
			}
		}
	}
}

// P10.2: Take, written out.
func TestTakeWritten(t *testing.T) {
	for i, c := range []struct {
		free        []int
		n           int
		taken, rest []int
		e           api.Errno
	}{
		{[]int{2, 4, 5}, 2, []int{2, 4}, []int{5}, api.OK}, {[]int{2, 4, 5}, 0, nil, []int{2, 4, 5}, api.OK}, {[]int{2, 4, 5}, 1, []int{2}, []int{4, 5}, api.OK}, {[]int{2, 4, 5}, 3, []int{2, 4, 5}, nil, api.OK},
		{[]int{2, 4, 5}, 4, nil, []int{2, 4, 5}, api.ErrFull}, {[]int{2, 4, 5}, math.MaxInt, nil, []int{2, 4, 5}, api.ErrFull}, {[]int{2, 4, 5}, 1 << 32, nil, []int{2, 4, 5}, api.ErrFull}, {[]int{2, 4, 5}, 256, nil, []int{2, 4, 5}, api.ErrFull},
		{[]int{2, 4, 5}, -1, nil, []int{2, 4, 5}, api.ErrArg}, {[]int{2, 4, 5}, -3, nil, []int{2, 4, 5}, api.ErrArg}, {[]int{2, 4, 5}, math.MinInt, nil, []int{2, 4, 5}, api.ErrArg}, {[]int{2, 4, 5}, -1 << 32, nil, []int{2, 4, 5}, api.ErrArg},
		{nil, 0, nil, nil, api.OK}, {nil, 1, nil, nil, api.ErrFull}, {nil, -1, nil, nil, api.ErrArg}, {[]int{}, 256, nil, nil, api.ErrFull},
		{upTo(255), 255, upTo(255), nil, api.OK}, {upTo(255), 256, nil, upTo(255), api.ErrFull}, {upTo(255), 254, upTo(254), []int{255}, api.OK},
		{[]int{4, 2}, 0, nil, []int{4, 2}, api.ErrArg}, {[]int{4, 2}, 1, nil, []int{4, 2}, api.ErrArg}, {[]int{4, 2}, 2, nil, []int{4, 2}, api.ErrArg}, {[]int{4, 2}, 3, nil, []int{4, 2}, api.ErrArg}, {[]int{4, 4}, 9, nil, []int{4, 4}, api.ErrArg}, {[]int{0}, 2, nil, []int{0}, api.ErrArg}, {[]int{1, 256}, 1, nil, []int{1, 256}, api.ErrArg}, {[]int{1, 256}, 3, nil, []int{1, 256}, api.ErrArg}, {[]int{-1, 1}, -1, nil, []int{-1, 1}, api.ErrArg}, {[]int{1, 2, 2}, 1, nil, []int{1, 2, 2}, api.ErrArg},
	} {
		if a, b, e := alloc.Take(c.free, c.n); !slices.Equal(a, c.taken) || !slices.Equal(b, c.rest) || e != c.e {
			t.Errorf("row %d: %v, %v, %v", i, a, b, e)
		}
	}
}

// P10.2: Take of none, some, all, more than all, below 0 and far off.
func TestTake(t *testing.T) {
	for _, free := range rights() {
		for n := -3; n <= len(free)+3; n++ {
			takes(t, free, n)
		}
		for _, n := range counts {
			takes(t, free, n)
		}
	}
}

// P10.2: Take and Give of free blocks that may not be tell ErrArg, whatever else is wrong, and leave them as they were.
func TestWrong(t *testing.T) {
	for _, free := range wrongs() {
		for _, n := range append([]int{len(free) - 1, len(free), len(free) + 1}, counts...) {
			if a, b, e := alloc.Take(free, n); len(a) != 0 || !slices.Equal(b, free) || e != api.ErrArg {
				t.Fatalf("Take(%v, %d): %v, %v, %v", free, n, a, b, e)
			}
			if l, e := alloc.Give(free, n); !slices.Equal(l, free) || e != api.ErrArg {
				t.Fatalf("Give(%v, %d): %v, %v", free, n, l, e)
			}
		}
	}
	for _, free := range short(3) {
		for _, n := range numbers {
			takes(t, free, n)
			gives(t, free, n)
		}
	}
}

// P10.2: Give, written out.
func TestGiveWritten(t *testing.T) {
	for i, c := range []struct {
		free  []int
		block int
		out   []int
		e     api.Errno
	}{
		{[]int{2, 4, 6}, 1, []int{1, 2, 4, 6}, api.OK}, {[]int{2, 4, 6}, 3, []int{2, 3, 4, 6}, api.OK}, {[]int{2, 4, 6}, 5, []int{2, 4, 5, 6}, api.OK}, {[]int{2, 4, 6}, 7, []int{2, 4, 6, 7}, api.OK}, {[]int{2, 4, 6}, 255, []int{2, 4, 6, 255}, api.OK},
		{[]int{2, 4, 6}, 2, []int{2, 4, 6}, api.ErrArg}, {[]int{2, 4, 6}, 4, []int{2, 4, 6}, api.ErrArg}, {[]int{2, 4, 6}, 6, []int{2, 4, 6}, api.ErrArg}, {[]int{2, 4, 6}, 0, []int{2, 4, 6}, api.ErrArg}, {[]int{2, 4, 6}, -1, []int{2, 4, 6}, api.ErrArg}, {[]int{2, 4, 6}, 256, []int{2, 4, 6}, api.ErrArg}, {[]int{2, 4, 6}, 257, []int{2, 4, 6}, api.ErrArg}, {[]int{2, 4, 6}, math.MinInt, []int{2, 4, 6}, api.ErrArg}, {[]int{2, 4, 6}, math.MaxInt, []int{2, 4, 6}, api.ErrArg}, {[]int{2, 4, 6}, 1<<32 + 3, []int{2, 4, 6}, api.ErrArg},
		{nil, 1, []int{1}, api.OK}, {[]int{}, 255, []int{255}, api.OK}, {nil, 0, nil, api.ErrArg}, {nil, 256, nil, api.ErrArg}, {nil, -1, nil, api.ErrArg},
		{upTo(254), 255, upTo(255), api.OK}, {every(2, 1), 1, upTo(255), api.OK}, {upTo(255), 255, upTo(255), api.ErrArg}, {upTo(255), 256, upTo(255), api.ErrArg},
		{[]int{4, 2}, 3, []int{4, 2}, api.ErrArg}, {[]int{4, 2}, 9, []int{4, 2}, api.ErrArg}, {[]int{4, 2}, 1, []int{4, 2}, api.ErrArg}, {[]int{4, 4}, 5, []int{4, 4}, api.ErrArg}, {[]int{0}, 1, []int{0}, api.ErrArg}, {[]int{256}, 1, []int{256}, api.ErrArg}, {[]int{-1, 2}, 1, []int{-1, 2}, api.ErrArg}, {[]int{1, 0}, 0, []int{1, 0}, api.ErrArg},
	} {
		if l, e := alloc.Give(c.free, c.block); !slices.Equal(l, c.out) || e != c.e {
			t.Errorf("row %d: %v, %v", i, l, e)
		}
	}
}

// P10.2: Give of each block, to each free ones: ahead of all, between any two, behind all, there already, and no block.
func TestGive(t *testing.T) {
	for _, free := range rights() {
		for block := -5; block < 300; block++ {
			gives(t, free, block)
		}
		for _, block := range numbers {
			gives(t, free, block)
		}
	}
}

// orders are all orders of l.
func orders(l []int) [][]int {
	if len(l) == 0 {
		return [][]int{nil}
	}
	var out [][]int
	for i, x := range l {
		for _, rest := range orders(slices.Delete(slices.Clone(l), i, i+1)) {
			out = append(out, append([]int{x}, rest...))
		}
	}
	return out
}

// back gives blocks back, one by one, and looks at what is free meanwhile: what was ahead, and those that came back.
func back(t *testing.T, rest, blocks []int) []int {
	t.Helper()
	now := rest
	for i, x := range blocks {
		var e api.Errno
		now, e = alloc.Give(now, x)
		want := slices.Sorted(slices.Values(slices.Concat(rest, blocks[:i+1])))
		if !slices.Equal(now, want) || e != api.OK || !alloc.Check(now) {
			t.Fatalf("%v behind %v to %v: %v, %v", x, blocks[:i], rest, now, e)
		}
		if again, e := alloc.Give(now, x); !slices.Equal(again, now) || e != api.ErrArg {
			t.Fatalf("%v is given to %v: %v, %v", x, now, again, e)
		}
	}
	return now
}

// P10.3: what was taken is given back in all orders, and is free as it was.
func TestBack(t *testing.T) {
	for _, free := range rights() {
		for n := range min(len(free), 5) + 1 {
			taken, rest, _ := alloc.Take(free, n)
			for _, order := range orders(taken) {
				if now := back(t, rest, order); !slices.Equal(now, free) {
					t.Fatalf("%v of %v: %v", order, free, now)
				}
			}
		}
	}
}

// P10.3: the same of many, in some orders.
func TestManyBack(t *testing.T) {
	for _, free := range rights() {
		for _, n := range places(free) {
			taken, rest, _ := alloc.Take(free, n+1)
			down := slices.Clone(taken)
			slices.Reverse(down)
			for _, order := range [][]int{taken, down, stridden(taken, 2), stridden(taken, 7), stridden(down, 101)} {
				if now := back(t, rest, order); !slices.Equal(now, free) {
					t.Fatalf("%v of %v: %v", order, free, now)
				}
			}
		}
	}
}

// P10.3: what is taken in two parts, and at once, is the same; and so is what is left.
func TestParts(t *testing.T) {
	for _, free := range rights() {
		for _, n := range append(places(free), len(free)) {
			once, left, _ := alloc.Take(free, n)
			for first := range n + 1 {
				a, rest, e := alloc.Take(free, first)
				b, end, f := alloc.Take(rest, n-first)
				if !slices.Equal(slices.Concat(a, b), once) || !slices.Equal(end, left) || e != api.OK || f != api.OK {
					t.Fatalf("%d and %d of %v: %v, %v, %v", first, n-first, free, a, b, end)
				}
			}
		}
	}
}

// P10.3: nothing is taken twice, and all of them are taken, however many at once; behind the last one there is none.
func TestTwice(t *testing.T) {
	for _, free := range rights() {
		for _, n := range []int{1, 2, 3, 19, 255} {
			var all []int
			rest := free
			for len(rest) > 0 {
				var taken []int
				var e api.Errno
				taken, rest, e = alloc.Take(rest, min(n, len(rest)))
				if e != api.OK || slices.ContainsFunc(taken, func(x int) bool { return slices.Contains(all, x) || slices.Contains(rest, x) }) {
					t.Fatalf("%v behind %v, ahead of %v: %v", taken, all, rest, e)
				}
				all = append(all, taken...)
			}
			if !slices.Equal(all, free) {
				t.Fatalf("%v of %v", all, free)
			}
			takes(t, rest, 1)
		}
	}
}

// P10.3: blocks are taken and given back by turns, and what is free is what Free tells, of those that are still taken.
func TestByTurns(t *testing.T) {
	for _, blocks := range []int{2, 3, 10, 100, 256} {
		free, _ := alloc.Free(blocks, nil)
		var held []int
		for i := range 2000 {
			if n := i * i % 7; i%3 != 0 && n <= len(free) {
				taken, rest, e := alloc.Take(free, n)
				if e != api.OK {
					t.Fatalf("%d of %v: %v", n, free, e)
				}
				free, held = rest, append(held, taken...)
			} else if len(held) > 0 {
				at := i * 31 % len(held)
				l, e := alloc.Give(free, held[at])
				if e != api.OK {
					t.Fatalf("%d to %v: %v", held[at], free, e)
				}
				free, held = l, slices.Delete(held, at, at+1)
			}
			if want, e := alloc.Free(blocks, held); !slices.Equal(free, want) || e != api.OK {
				t.Fatalf("%d, %d: %v, not %v", blocks, i, free, want)
			}
		}
	}
}

// withRoom is l with spare room behind it, and whether both are as they were.
func withRoom(l []int) ([]int, func() bool) {
	room := append(slices.Clone(l), 77, 0, 78, -79, 256, 81, 255, 83)
	was := slices.Clone(room)
	return room[:len(l)], func() bool { return slices.Equal(room, was) }
}

// spoil writes over lists and their spare room.
func spoil(lists ...[]int) {
	for _, l := range lists {
		l = l[:cap(l)]
		for i := range l {
			l[i] = -5
		}
	}
}

// R4: what is handed in stays as it was, its spare room too, and nothing hangs on that room, nor shares memory with what is answered.
func TestHandedIn(t *testing.T) {
	for _, l := range slices.Concat(rights(), wrongs(), short(2)) {
		free, stays := withRoom(l)
		checks(t, free)
		for _, n := range []int{-1, 0, 1, 2, len(l) - 1, len(l), len(l) + 1, 77, 255, 256} {
			takes(t, free, n)
			gives(t, free, n)
			frees(t, n, free)
			_, rest, _ := alloc.Take(free, n)
			given, _ := alloc.Give(free, n)
			left, _ := alloc.Free(n, free)
			spoil(rest, given, left)
			taken, _, _ := alloc.Take(free, n)
			spoil(taken)
			if !stays() || !slices.Equal(free, l) {
				t.Fatalf("%d: %v, not %v", n, free, l)
			}
		}
	}
}

// R4: the two lists that Take answers share no memory, spare room too, and stay when what was handed in is changed.
func TestShares(t *testing.T) {
	for _, l := range slices.Concat(rights(), wrongs()) {
		for _, n := range []int{-1, 0, 1, 2, len(l) - 1, len(l), len(l) + 1} {
			taken, rest, _ := wantTake(l, n)
			free, _ := withRoom(l)
			a, b, _ := alloc.Take(free, n)
			c, d, _ := alloc.Take(free, n)
			g, e := alloc.Give(free, n)
			want, told := wantGive(l, n)
			spoil(free, a)
			if !slices.Equal(b, rest) {
				t.Fatalf("%d of %v: %v", n, l, b)
			}
			spoil(d)
			if !slices.Equal(c, taken) || !slices.Equal(g, want) || e != told {
				t.Fatalf("%d of %v: %v, %v", n, l, c, g)
			}
		}
	}
	for blocks := 1; blocks < 257; blocks += 5 {
		used, _ := withRoom(every(3, 4))
		l, _ := alloc.Free(blocks, used)
		m, _ := alloc.Free(blocks, used)
		spoil(used, m)
		if want, _ := wantFree(blocks, every(3, 4)); !slices.Equal(l, want) {
			t.Fatalf("%d: %v", blocks, l)
		}
	}
}
