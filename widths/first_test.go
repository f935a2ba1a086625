package widths_test

import (
	"math"
	"slices"
	"testing"

	"purfling/api"
	"purfling/columns"
	"purfling/widths"
)

// need is of the first row: it has its first column, how many it has, and the width that it wants.
func need(col int, cols int, want api.Size) api.Need {
	return api.Need{Place: api.Place{Col: col, Cols: cols, Rows: 1}, Min: 3, Max: 900, Want: want}
}

// below is a need of another row.
func below(row int, n api.Need) api.Need {
	n.Place.Row = row
	return n
}

func needs(l ...api.Need) []api.Need { return l }

// need is valid where there are so many columns, and mostly of the first row.
func (n *numbers) need(cols int) api.Need {
	col := n.below(cols)
	one := need(col, 1+n.below(cols-col), n.size())
	one.Place.Row = int(n.of(0, 0, 0, 0, 1, -1))
	return one
}

func (n *numbers) needs(cols int, many int) []api.Need {
	l := make([]api.Need, many)
	for i := range l {
		l[i] = n.need(cols)
	}
	return l
}

// firstByWords goes through the words of the chapter one by one.
func firstByWords(l []api.Size, all []api.Need, gap int64) []api.Size {
	now := slices.Clone(l)
	for _, n := range all {
		cols := n.Place.Cols
		if n.Place.Row != 0 || n.Want.Kind == api.SizeAuto {
			continue
		}
		width := n.Want.N
		if n.Want.Kind == api.SizeLen {
			width = max(0, width-gap*int64(cols-1))
		}
		for i, s := range evenByWords(width, cols) {
			if now[n.Place.Col+i].Kind == api.SizeAuto {
				now[n.Place.Col+i] = api.Size{Kind: n.Want.Kind, N: s}
			}
		}
	}
	return now
}

func wantFirst(t *testing.T, l []api.Size, all []api.Need, gap int64, want []api.Size) {
	t.Helper()
	if got, err := widths.First(l, all, gap); err != api.OK || !slices.Equal(got, want) {
		t.Errorf("First(%v, %v, %d) = %v, error %d, want %v", few(l), few(all), gap, few(got), err, few(want))
	}
}

func holdFirst(t *testing.T, name string, l []api.Size, all []api.Need, gap int64, right bool) {
	t.Helper()
	got, err := widths.First(l, all, gap)
	if right && (err != api.OK || len(got) != len(l)) {
		t.Errorf("%s: First(%v, %v, %d) = %d sizes, error %d", name, few(l), few(all), gap, len(got), err)
	}
	if !right && (err != api.ErrWidth || len(got) != 0) {
		t.Errorf("%s: First(%v, %v, %d) = %d sizes, error %d, want %d", name, few(l), few(all), gap, len(got), err, api.ErrWidth)
	}
}

// P15.2: one need of the first row, written out.
func TestFirstOne(t *testing.T) {
	var none api.Size
	for _, c := range []struct {
		l    []api.Size
		one  api.Need
		gap  int64
		want []api.Size
	}{
		// One column: no gap is taken off.
		{sizes(none), need(0, 1, length(23)), 0, sizes(length(23))},
		{sizes(none), need(0, 1, length(23)), px, sizes(length(23))},
		{sizes(none), need(0, 1, length(0)), 2, sizes(length(0))},
		{sizes(none), need(0, 1, length(px)), 2, sizes(length(px))},
		{sizes(none), need(0, 1, part(2000)), 2, sizes(part(2000))},
		{sizes(none), need(0, 1, part(0)), 2, sizes(part(0))},
		{sizes(none), need(0, 1, part(share)), px, sizes(part(share))},
		{sizes(none), need(0, 1, none), 2, sizes(none)},
		{sizes(none, none, none), need(1, 1, length(5)), 2, sizes(none, length(5), none)},
		{sizes(none, none, none), need(2, 1, part(5)), 2, sizes(none, none, part(5))},

		// Several: lengths without the gaps, shares as they are.
		{sizes(none, none), need(0, 2, length(23)), 2, sizes(length(11), length(10))},
		{sizes(none, none), need(0, 2, length(22)), 2, sizes(length(10), length(10))},
		{sizes(none, none), need(0, 2, length(23)), 0, sizes(length(12), length(11))},
		{sizes(none, none), need(0, 2, length(23)), 22, sizes(length(1), length(0))},
		{sizes(none, none), need(0, 2, length(23)), 23, sizes(length(0), length(0))},
		{sizes(none, none), need(0, 2, length(23)), 24, sizes(length(0), length(0))},
		{sizes(none, none), need(0, 2, length(23)), px, sizes(length(0), length(0))},
		{sizes(none, none), need(0, 2, length(px)), px, sizes(length(0), length(0))},
		{sizes(none, none), need(0, 2, length(px)), px - 1, sizes(length(1), length(0))},
		{sizes(none, none, none), need(0, 3, length(23)), 2, sizes(length(7), length(6), length(6))},
		{sizes(none, none), need(0, 2, part(2001)), 2, sizes(part(1001), part(1000))},
		{sizes(none, none), need(0, 2, part(2001)), px, sizes(part(1001), part(1000))},
		{sizes(none, none, none), need(0, 3, part(share)), 7, sizes(part(3333334), part(3333333), part(3333333))},
		{sizes(none, none), need(0, 2, part(1)), 0, sizes(part(1), part(0))},
		{sizes(none, none), need(0, 2, part(0)), 0, sizes(part(0), part(0))},
		{sizes(none, none), need(0, 2, none), 2, sizes(none, none)},

		// Columns that have a size keep it, and take their part with them.
		{sizes(none, length(5), none), need(0, 3, length(23)), 2, sizes(length(7), length(5), length(6))},
		{sizes(length(5), none, none), need(0, 3, length(23)), 2, sizes(length(5), length(6), length(6))},
		{sizes(none, none, length(0)), need(0, 3, length(23)), 2, sizes(length(7), length(6), length(0))},
		{sizes(none, part(0), none), need(0, 3, length(23)), 2, sizes(length(7), part(0), length(6))},
		{sizes(length(0), none, part(7)), need(0, 3, part(11)), 2, sizes(length(0), part(4), part(7))},
		{sizes(part(7), length(5)), need(0, 2, length(23)), 2, sizes(part(7), length(5))},
		{sizes(part(7), length(5)), need(0, 2, part(23)), 2, sizes(part(7), length(5))},
		{sizes(part(7), length(5)), need(0, 2, none), 2, sizes(part(7), length(5))},
		{sizes(part(0)), need(0, 1, length(23)), 2, sizes(part(0))},
		{sizes(length(0)), need(0, 1, part(23)), 2, sizes(length(0))},

		// The columns beside it stay as they are.
		{sizes(none, none, none, none), need(1, 2, length(23)), 2, sizes(none, length(11), length(10), none)},
		{sizes(none, none, none, none), need(2, 2, length(23)), 2, sizes(none, none, length(11), length(10))},
		{sizes(none, none, none, none), need(0, 2, part(23)), 2, sizes(part(12), part(11), none, none)},
	} {
		wantFirst(t, c.l, needs(c.one), c.gap, c.want)
		wantFirst(t, c.l, needs(c.one), c.gap, firstByWords(c.l, needs(c.one), c.gap))
		for _, row := range []int{math.MinInt, -1, 1, 2, 9999, math.MaxInt} {
			wantFirst(t, c.l, needs(below(row, c.one)), c.gap, c.l)
		}
	}
}

// P15.2: several needs, written out: one after the other.
func TestFirstSeveral(t *testing.T) {
	var none api.Size
	three, ends := sizes(none, none, none), need(1, 2, length(40))
	for _, c := range []struct {
		l    []api.Size
		all  []api.Need
		want []api.Size
	}{
		{sizes(none, length(5), none), needs(need(0, 2, length(23)), below(1, need(2, 1, length(9))), need(2, 1, part(2000))), sizes(length(11), length(5), part(2000))},
		{three, needs(need(0, 2, length(22)), ends), sizes(length(10), length(10), length(19))},
		{three, needs(ends, need(0, 2, length(22))), sizes(length(10), length(19), length(19))},
		{three, needs(need(0, 2, part(22)), ends), sizes(part(11), part(11), length(19))},
		{three, needs(need(0, 2, none), ends), sizes(none, length(19), length(19))},
		{three, needs(below(1, need(0, 2, length(22))), ends), sizes(none, length(19), length(19))},
		{three, needs(need(0, 2, length(22)), below(1, ends)), sizes(length(10), length(10), none)},
		{three, needs(need(0, 2, length(0)), ends), sizes(length(0), length(0), length(19))},
		{three, needs(need(1, 1, length(0)), need(0, 3, length(34))), sizes(length(10), length(0), length(10))},
		{three, needs(need(1, 1, none), need(0, 3, length(34))), sizes(length(10), length(10), length(10))},
		{three, needs(need(0, 1, length(7)), need(0, 1, length(9)), need(0, 1, part(8))), sizes(length(7), none, none)},
		{three, needs(need(0, 1, length(7)), need(1, 1, part(9)), need(2, 1, none)), sizes(length(7), part(9), none)},
		{three, nil, three},
		{sizes(length(0), part(0), length(px), part(share)), nil, sizes(length(0), part(0), length(px), part(share))},
	} {
		wantFirst(t, c.l, c.all, 2, c.want)
		wantFirst(t, c.l, c.all, 2, firstByWords(c.l, c.all, 2))
	}
	for _, gap := range list(0, 1, px) {
		wantFirst(t, nil, nil, gap, nil)
		wantFirst(t, sizes(), needs(), gap, nil)
		wantFirst(t, three, needs(), gap, three)
	}
}

// P15.2: the nodes of places, how many rows they have, and what cells need beside the width that they want, make no difference.
func TestFirstOnlyColumnsCount(t *testing.T) {
	for _, n := range []int{math.MinInt, -1, 0, 1, 10000, 65537, math.MaxInt} {
		one := need(0, 2, length(23))
		one.Place.Node, one.Place.Rows = n, n
		wantFirst(t, auto(2), needs(one), 2, sizes(length(11), length(10)))
		wantFirst(t, auto(2), needs(below(1, one)), 2, auto(2))
	}
	for _, widths := range [][2]int64{{0, 0}, {0, wide}, {wide, wide}, {7, 7}, {50, 60}} {
		one := need(0, 2, length(23))
		one.Min, one.Max = widths[0], widths[1]
		wantFirst(t, auto(2), needs(one), 2, sizes(length(11), length(10)))
	}
}

// P15.2: sizes have to be valid, wherever they stand, and whatever needs there are; there are at most 10000.
func TestFirstWrongSizes(t *testing.T) {
	for at := range 4 {
		for _, all := range [][]api.Need{nil, needs(need(0, 1, length(5))), needs(need(0, 4, part(5)), need(3, 1, length(7))), needs(below(1, need(2, 2, length(7))))} {
			for _, wrong := range wrongSizes() {
				holdFirst(t, "a wrong size", slices.Insert(sizes(length(3), api.Size{}, part(40)), at, wrong), all, 2, false)
			}
			for _, right := range rightSizes() {
				holdFirst(t, "a size", slices.Insert(sizes(length(3), api.Size{}, part(40)), at, right), all, 2, true)
			}
		}
	}
	for _, many := range []int{0, 1, 2, 9999, 10000, 10001, 10002, 65537} {
		holdFirst(t, "sizes", auto(many), nil, 2, many <= 10000)
		holdFirst(t, "sizes and a need", auto(many), needs(need(0, many, length(5))), 2, 0 < many && many <= 10000)
	}
	l := auto(10000)
	for _, at := range []int{0, 1, 5000, 9999} {
		l[at].N = 6
		holdFirst(t, "a wrong size of many", l, nil, 2, false)
		l[at].N = 0
	}
}

// wrongNeeds are wrong where there are three columns.
func wrongNeeds() []api.Need {
	var l []api.Need
	for _, p := range [][2]int{
		{0, 0}, {1, 0}, {3, 0}, {0, -1}, {2, -1}, {0, math.MinInt}, {-1, 2}, {-1, 1}, {math.MinInt, 2}, {math.MinInt, math.MinInt},
		{0, 4}, {1, 3}, {2, 2}, {3, 1}, {3, 2}, {math.MaxInt, 2}, {0, math.MaxInt}, {2, math.MaxInt}, {math.MaxInt, math.MaxInt}, {math.MaxInt, math.MinInt},
	} {
		l = append(l, need(p[0], p[1], length(5)), need(p[0], p[1], part(5)), need(p[0], p[1], api.Size{}))
	}
	for _, m := range [][2]int64{{-1, 5}, {-1, -1}, {6, 5}, {1, 0}, {0, wide + 1}, {wide + 1, wide + 1}, {math.MinInt64, math.MaxInt64}, {math.MaxInt64, math.MinInt64}} {
		one := need(0, 2, length(5))
		one.Min, one.Max = m[0], m[1]
		l = append(l, one)
	}
	for _, size := range wrongSizes() {
		l = append(l, need(0, 2, size))
	}
	return l
}

// P15.2: needs have to be valid, those of other rows too.
func TestFirstWrongNeeds(t *testing.T) {
	l := sizes(length(3), api.Size{}, part(40))
	right := needs(need(0, 3, length(60)), need(2, 1, part(8)), need(1, 2, api.Size{}))
	holdFirst(t, "right needs", l, right, 2, true)
	for _, wrong := range wrongNeeds() {
		for _, row := range []int{0, 1, -1} {
			holdFirst(t, "a wrong need alone", l, needs(below(row, wrong)), 2, false)
			holdFirst(t, "a wrong need of no columns", nil, needs(below(row, wrong)), 2, false)
			for at := range 4 {
				holdFirst(t, "a wrong need", l, slices.Insert(slices.Clone(right), at, below(row, wrong)), 2, false)
			}
		}
	}
	for many := range 6 {
		for col := -1; col < 7; col++ {
			for cols := -1; cols < 7; cols++ {
				holdFirst(t, "a place", auto(many), needs(need(col, cols, length(60))), 2, col >= 0 && cols >= 1 && col+cols <= many)
			}
		}
	}
}

// P15.2: the gap has its bounds, whether or not there are needs.
func TestFirstGaps(t *testing.T) {
	for _, gap := range list(math.MinInt64, -px, -2, -1, 0, 1, 2, px-1, px, px+1, px+2, 1<<32, wide, math.MaxInt64) {
		right := gap >= 0 && gap <= px
		holdFirst(t, "no sizes", nil, nil, gap, right)
		holdFirst(t, "no needs", auto(2), nil, gap, right)
		holdFirst(t, "one column", auto(2), needs(need(1, 1, length(23))), gap, right)
		holdFirst(t, "two columns", auto(2), needs(need(0, 2, length(23))), gap, right)
		holdFirst(t, "another row", auto(2), needs(below(1, need(0, 2, length(23)))), gap, right)
	}
}

// P15.2: random sizes and needs, against the chapter's words; what comes out is valid again, and a second time it changes nothing.
func TestFirstRandom(t *testing.T) {
	var n numbers = 156
	changed := 0
	for range 20000 {
		cols := 1 + n.below(6)
		l, all, gap := n.sizes(cols), n.needs(cols, n.below(6)), n.of(0, 0, 1, 2, int64(n.below(30)), px)
		want := firstByWords(l, all, gap)
		wantFirst(t, l, all, gap, want)
		wantFirst(t, want, all, gap, want)
		if !columns.Right(want, all) {
			t.Errorf("First(%v, %v, %d) = %v", l, all, gap, want)
		}
		if t.Failed() {
			return
		}
		if !slices.Equal(l, want) {
			changed++
		}
	}
	if changed < 5000 || changed > 18000 {
		t.Errorf("%d of 20000 were changed", changed)
	}
}

// P15.2: as many columns as there may be, and more needs.
func TestFirstMany(t *testing.T) {
	var n numbers = 157
	l, all := n.sizes(10000), n.needs(10000, 300)
	wantFirst(t, l, all, 1, firstByWords(l, all, 1))
	wantFirst(t, auto(10000), needs(need(0, 10000, length(px))), 1, slices.Concat(slices.Repeat(sizes(length(107374)), 1825), slices.Repeat(sizes(length(107373)), 8175)))
	wantFirst(t, auto(10000), needs(need(0, 10000, length(px))), px, slices.Repeat(sizes(length(0)), 10000))
	wantFirst(t, auto(10000), needs(need(0, 10000, part(share))), px, slices.Repeat(sizes(part(1000)), 10000))
	var each []api.Need
	for col := range 10000 {
		each = append(each, need(col, 1, length(int64(col))), need(9999-col, 1, api.Size{}), below(1, need(col, 10000-col, part(7))))
	}
	got, err := widths.First(auto(10000), each, 5)
	for col, size := range got {
		if size != length(int64(col)) {
			t.Fatalf("column %d is %v", col, size)
		}
	}
	if err != api.OK || len(got) != 10000 {
		t.Errorf("%d sizes, error %d", len(got), err)
	}
}

// P15.2: what is given to Fixed and to First is not written to, in its spare capacity neither, and an answer shares memory with nothing.
func TestSizesMemory(t *testing.T) {
	wholeSizes := sizes(length(30), api.Size{}, api.Size{}, part(-7), part(-8))
	wholeNeeds := needs(need(0, 3, length(100)), need(2, 1, part(42)), below(1, need(1, 1, length(7))), need(0, 9, part(-9)))
	beforeSizes, beforeNeeds := slices.Clone(wholeSizes), slices.Clone(wholeNeeds)
	for many := range 4 {
		l, all := wholeSizes[:3], wholeNeeds[:many]
		first, _ := widths.First(l, all, 2)
		want := slices.Clone(first)
		second, _ := widths.First(l, all, 2)
		whole := first[:cap(first)]
		for i := range whole {
			whole[i] = part(-99)
		}
		fixed, _ := widths.Fixed(l, 100)
		again, _ := widths.Fixed(l, 100)
		wholeFixed := fixed[:cap(fixed)]
		for i := range wholeFixed {
			wholeFixed[i] = -99
		}
		if !slices.Equal(wholeSizes, beforeSizes) || !slices.Equal(wholeNeeds, beforeNeeds) {
			t.Error("sizes or needs were written to")
		}
		if !slices.Equal(second, want) || !slices.Equal(want, firstByWords(l, all, 2)) || !slices.Equal(again, list(30, 35, 35)) {
			t.Error("two answers share memory")
		}
	}
}
