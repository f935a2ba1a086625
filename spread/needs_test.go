package spread_test

import (
	"math"
	"slices"
	"testing"

	"purfling/api"
	"purfling/columns"
	"purfling/fixed"
	"purfling/spread"
)

// free has neither a share nor a wanted length.
func free(least int64, most int64) api.Band {
	return api.Band{Min: least, Max: most, Share: -1, Want: -1}
}

// need has its first column, and how many it has.
func need(col int, cols int, least int64, most int64) api.Need {
	return api.Need{Place: api.Place{Col: col, Cols: cols, Rows: 1}, Min: least, Max: most}
}

func bands(l ...api.Band) []api.Band { return l }

func needs(l ...api.Need) []api.Need { return l }

// band is valid.
func (n *numbers) band() api.Band {
	b := free(n.length(), n.length())
	if b.Min > b.Max {
		b.Min, b.Max = b.Max, b.Min
	}
	switch n.below(4) {
	case 0:
		b.Share = n.of(0, share, int64(n.below(10000)))
	case 1:
		b.Want = n.of(0, px, int64(n.below(100)))
	}
	return b
}

func (n *numbers) bands(many int) []api.Band {
	l := make([]api.Band, many)
	for i := range l {
		l[i] = n.band()
	}
	return l
}

// need is valid where there are so many columns, and mostly of several.
func (n *numbers) need(cols int) api.Need {
	col := n.below(cols)
	b := n.band()
	one := need(col, 1+n.below(cols-col), b.Min, b.Max)
	if n.below(2) == 0 {
		one.Min, one.Max = min(one.Min*int64(one.Place.Cols), wide), min(one.Max*int64(one.Place.Cols), wide)
	}
	if b.Want >= 0 {
		one.Want = api.Size{Kind: api.SizeLen, N: b.Want}
	}
	if b.Share >= 0 {
		one.Want = api.Size{Kind: api.SizeShare, N: b.Share}
	}
	return one
}

func (n *numbers) needs(cols int, many int) []api.Need {
	l := make([]api.Need, many)
	for i := range l {
		l[i] = n.need(cols)
	}
	return l
}

func (n *numbers) gap() int64 { return n.of(0, 0, 1, 2, int64(n.below(30)), px) }

// partByWords is for valid needs and gaps, which are far from the bounds of an int64.
func partByWords(n int64, gap int64, cols int) int64 {
	n -= gap * int64(cols-1)
	if n < 0 {
		return 0
	}
	return n
}

// byWords goes through the words of the chapter one by one.
func byWords(l []api.Band, all []api.Need, gap int64) []api.Band {
	now := append([]api.Band{}, l...)
	for cols := 2; cols <= len(l); cols++ {
		for _, n := range all {
			if n.Place.Cols != cols {
				continue
			}
			var mins, maxs, weights []int64
			for _, b := range now[n.Place.Col : n.Place.Col+cols] {
				mins, maxs = append(mins, b.Min), append(maxs, b.Max)
			}
			mins = overByWords(partByWords(n.Min, gap, cols), mins, maxs)
			for i := range maxs {
				if maxs[i] < mins[i] {
					maxs[i] = mins[i]
				}
			}
			weights = append(weights, maxs...)
			maxs = overByWords(partByWords(n.Max, gap, cols), maxs, weights)
			for i := range cols {
				now[n.Place.Col+i].Min, now[n.Place.Col+i].Max = mins[i], maxs[i]
			}
		}
	}
	return now
}

func wantNeeds(t *testing.T, l []api.Band, all []api.Need, gap int64, want []api.Band) {
	t.Helper()
	if got, err := spread.Needs(l, all, gap); err != api.OK || !slices.Equal(got, want) {
		t.Errorf("Needs(%v, %v, %d) = %v, error %d, want %v", few(l), few(all), gap, few(got), err, few(want))
	}
}

func holdNeeds(t *testing.T, name string, l []api.Band, all []api.Need, gap int64, right bool) {
	t.Helper()
	got, err := spread.Needs(l, all, gap)
	if right && (err != api.OK || len(got) != len(l)) {
		t.Errorf("%s: Needs(%v, %v, %d) = %d bands, error %d", name, few(l), few(all), gap, len(got), err)
	}
	if !right && (err != api.ErrWidth || len(got) != 0) {
		t.Errorf("%s: Needs(%v, %v, %d) = %d bands, error %d, want %d", name, few(l), few(all), gap, len(got), err, api.ErrWidth)
	}
}

// P14.2: one need over two columns, written out.
func TestOneNeed(t *testing.T) {
	for _, c := range []struct {
		a, b        api.Band
		least, most int64
		gap         int64
		first, next api.Band
	}{
		{free(10, 20), free(10, 60), 42, 122, 2, free(15, 30), free(25, 90)},
		{free(10, 20), free(10, 60), 0, 0, 0, free(10, 20), free(10, 60)},
		{free(10, 20), free(10, 60), 20, 80, 0, free(10, 20), free(10, 60)},
		{free(10, 20), free(10, 60), 22, 82, 2, free(10, 20), free(10, 60)},
		{free(10, 20), free(10, 60), 23, 82, 2, free(10, 20), free(11, 60)},
		{free(10, 20), free(10, 60), 22, 83, 2, free(10, 20), free(10, 61)},
		{free(10, 20), free(10, 60), 42, 42, 2, free(15, 20), free(25, 60)},
		{free(10, 20), free(10, 60), 0, 122, 2, free(10, 30), free(10, 90)},
		{free(10, 20), free(10, 60), 42, 122, 200, free(10, 20), free(10, 60)},
		{free(10, 20), free(10, 60), 42, 122, px, free(10, 20), free(10, 60)},
		{free(10, 20), free(10, 60), 100, 100, 0, free(30, 30), free(70, 70)}, // 80 by 20 and 60

		// All Maxs are 0: the Mins grow evenly, and then the Maxs by the Mins.
		{free(0, 0), free(0, 0), 3, 30, 0, free(2, 20), free(1, 10)},
		{free(0, 0), free(0, 0), 3, 3, 0, free(2, 2), free(1, 1)},
		{free(0, 0), free(0, 0), 0, 30, 0, free(0, 15), free(0, 15)},
		{free(0, 0), free(0, 0), 0, 31, 0, free(0, 16), free(0, 15)},
		{free(0, 0), free(0, 0), 1, 5, 4, free(0, 1), free(0, 0)},

		// A Max of 0 gets nothing, whatever the Mins are.
		{free(0, 0), free(0, 5), 9, 19, 0, free(0, 0), free(9, 19)},
		{free(0, 5), free(0, 0), 9, 19, 0, free(9, 19), free(0, 0)},
		{free(0, 5), free(3, 5), 4, 5, 0, free(1, 5), free(3, 5)},

		// The Maxs are weights as they are once they have been raised to the Mins.
		{free(0, 1), free(0, 3), 8, 24, 0, free(2, 6), free(6, 18)},
		{free(0, 1), free(0, 1), 5, 11, 0, free(3, 7), free(2, 4)},    // 6 by 3 and 2: 3.6 and 2.4
		{free(8, 8), free(0, 1), 18, 18, 0, free(17, 17), free(1, 1)}, // 10 by 8 and 1: 8.9 and 1.1
		{free(8, 8), free(0, 2), 18, 18, 0, free(16, 16), free(2, 2)},
		{free(4, 4), free(0, 4), 14, 33, 0, free(9, 21), free(5, 12)}, // 10 by 4 and 4, then 19 by 9 and 5: 12.2 and 6.8

		// Shares and wanted lengths stay, even where a Max grows beyond what is wanted.
		{api.Band{Min: 10, Max: 20, Share: 700, Want: -1}, api.Band{Min: 10, Max: 60, Share: -1, Want: 60}, 42, 122, 2, api.Band{Min: 15, Max: 30, Share: 700, Want: -1}, api.Band{Min: 25, Max: 90, Share: -1, Want: 60}},
		{api.Band{Share: 0, Want: -1}, api.Band{Share: -1}, 4, 6, 0, api.Band{Min: 2, Max: 3, Share: 0, Want: -1}, api.Band{Min: 2, Max: 3, Share: -1}},

		{free(0, 0), free(0, 0), wide, wide, 0, free(1<<49, 1<<49), free(1<<49-1, 1<<49-1)},
		{free(wide, wide), free(wide, wide), wide, wide, 0, free(wide, wide), free(wide, wide)},
		{free(0, wide), free(0, wide), wide, wide, 0, free(1<<49, wide), free(1<<49-1, wide)},
		{free(0, wide), free(0, 0), wide, wide, 0, free(wide, wide), free(0, 0)},
		{free(0, 0), free(0, 0), 0, wide, px, free(0, (wide-px+1)/2), free(0, (wide-px)/2)},
	} {
		wantNeeds(t, bands(c.a, c.b), needs(need(0, 2, c.least, c.most)), c.gap, bands(c.first, c.next))
	}
}

// P14.2: several needs, written out: those with fewer columns first, equally many in their order.
func TestSeveralNeeds(t *testing.T) {
	l := bands(free(10, 20), free(10, 60), free(0, 0))
	one, two, three := need(2, 1, 900, 900), need(0, 2, 42, 122), need(0, 3, 100, 100)
	want := bands(free(29, 30), free(67, 90), free(0, 0))
	for _, all := range [][]api.Need{{one, two, three}, {one, three, two}, {two, one, three}, {two, three, one}, {three, one, two}, {three, two, one}, {three, two}, {two, three}} {
		wantNeeds(t, l, all, 2, want)
	}

	l = bands(free(0, 10), free(0, 10), free(0, 0))
	first, behind := need(0, 2, 10, 10), need(1, 2, 10, 10)
	early, late := bands(free(5, 10), free(10, 10), free(0, 0)), bands(free(0, 10), free(10, 10), free(0, 0))
	wantNeeds(t, l, needs(first, behind), 0, early)
	wantNeeds(t, l, needs(behind, first), 0, late)
	wantNeeds(t, l, needs(one, first, one, behind, one), 0, early)
	wantNeeds(t, l, needs(one, behind, one, first, one), 0, late)
	wantNeeds(t, l, needs(first, need(0, 3, 0, 0), behind), 0, early)
	wantNeeds(t, l, needs(need(0, 3, 0, 0), behind, first), 0, late)
	wantNeeds(t, l, needs(first, behind, first, behind), 0, early)

	l = bands(free(1, 1), free(1, 1), free(1, 1), free(1, 1))
	wantNeeds(t, l, needs(need(1, 2, 10, 20)), 0, bands(free(1, 1), free(5, 10), free(5, 10), free(1, 1)))
	wantNeeds(t, l, needs(need(2, 2, 10, 20)), 4, bands(free(1, 1), free(1, 1), free(3, 8), free(3, 8)))
	wantNeeds(t, l, needs(need(0, 4, 16, 28)), 4, bands(free(1, 4), free(1, 4), free(1, 4), free(1, 4)))
	wantNeeds(t, l, needs(need(0, 4, 18, 28)), 4, bands(free(2, 5), free(2, 5), free(1, 3), free(1, 3)))                 // 10 by 2, 2, 1, 1
	wantNeeds(t, l, needs(need(1, 3, 9, 9), need(0, 2, 9, 9)), 0, bands(free(5, 5), free(6, 6), free(2, 2), free(1, 1))) // 7 by 1, 1, then 3 by 4, 1, 1
}

// P14.2: columns that no need of several has are as they were, and needs of one column change nothing.
func TestUntouched(t *testing.T) {
	l := bands(free(3, 5), api.Band{Min: 1, Max: 9, Share: 40, Want: -1}, api.Band{Min: 2, Max: 4, Share: -1, Want: 4})
	wantNeeds(t, l, nil, 0, l)
	wantNeeds(t, l, needs(), px, l)
	for col := range l {
		wantNeeds(t, l, needs(need(col, 1, 900, 900)), 0, l)
		wantNeeds(t, l, needs(need(col, 1, 900, 900), need(0, 1, 1, wide)), 7, l)
		wantNeeds(t, l[col:col+1], needs(need(0, 1, wide, wide)), 0, l[col:col+1])
	}
	wantNeeds(t, l, slices.Repeat(needs(need(1, 1, 900, 900)), 1000), 0, l)
	for _, gap := range list(0, 1, px) {
		wantNeeds(t, nil, nil, gap, nil)
		wantNeeds(t, bands(), needs(), gap, nil)
	}
}

// P14.2: rows, nodes and wanted sizes make no difference.
func TestOnlyColumnsCount(t *testing.T) {
	l, want := bands(free(10, 20), free(10, 60)), bands(free(15, 30), free(25, 90))
	for _, n := range []int{math.MinInt, -1, 0, 1, 10000, 65537, math.MaxInt} {
		for _, p := range []api.Place{{Node: n, Cols: 2}, {Row: n, Cols: 2, Rows: 1}, {Rows: n, Cols: 2}, {Node: n, Row: n, Rows: n, Cols: 2}} {
			wantNeeds(t, l, needs(api.Need{Place: p, Min: 42, Max: 122}), 2, want)
		}
	}
	for _, size := range []api.Size{{}, {Kind: api.SizeLen}, {Kind: api.SizeLen, N: px}, {Kind: api.SizeShare}, {Kind: api.SizeShare, N: share}} {
		one := need(0, 2, 42, 122)
		one.Want = size
		wantNeeds(t, l, needs(one), 2, want)
	}
}

// P14.2: bands have to be valid, wherever they stand, and whatever needs there are.
func TestWrongBands(t *testing.T) {
	for _, c := range []struct {
		b     api.Band
		right bool
	}{
		{free(0, 0), true},
		{free(0, wide), true},
		{free(wide, wide), true},
		{api.Band{Max: 5, Share: 0, Want: -1}, true},
		{api.Band{Max: 5, Share: share, Want: -1}, true},
		{api.Band{Max: 5, Share: -1, Want: 0}, true},
		{api.Band{Max: 5, Share: -1, Want: px}, true},
		{api.Band{}, false},
		{free(-1, 5), false},
		{free(-1, -1), false},
		{free(6, 5), false},
		{free(1, 0), false},
		{free(0, wide+1), false},
		{free(wide+1, wide+1), false},
		{free(math.MinInt64, math.MaxInt64), false},
		{free(math.MaxInt64, math.MinInt64), false},
		{api.Band{Max: 5, Share: -2, Want: -1}, false},
		{api.Band{Max: 5, Share: -1, Want: -2}, false},
		{api.Band{Max: 5, Share: share + 1, Want: -1}, false},
		{api.Band{Max: 5, Share: -1, Want: px + 1}, false},
		{api.Band{Max: 5, Share: 7, Want: 7}, false},
	} {
		holdNeeds(t, "a band alone", bands(c.b), nil, 0, c.right)
		for at := range 4 {
			l := slices.Insert(bands(free(0, 9), free(5, 5), api.Band{Min: 1, Max: 3, Share: 40, Want: -1}), at, c.b)
			holdNeeds(t, "a band", l, nil, 0, c.right)
			holdNeeds(t, "a band with a need", l, needs(need(0, 4, 60, 70)), 3, c.right)
			holdNeeds(t, "a band with needs beside it", l, needs(need(2*(1-at/2), 2, 60, 70)), 3, c.right)
		}
	}
}

// wrongNeeds are wrong where there are three columns.
func wrongNeeds() []api.Need {
	l := needs(
		need(0, 2, -1, 5), need(0, 2, -1, -1), need(0, 2, 6, 5), need(0, 2, 1, 0), need(0, 2, 0, wide+1), need(0, 2, wide+1, wide+1),
		need(0, 2, math.MinInt64, math.MaxInt64), need(0, 2, math.MaxInt64, math.MaxInt64),
		need(0, 0, 1, 2), need(1, 0, 1, 2), need(3, 0, 1, 2), need(0, -1, 1, 2), need(2, -1, 1, 2), need(0, math.MinInt, 1, 2),
		need(-1, 2, 1, 2), need(-1, 1, 1, 2), need(math.MinInt, 2, 1, 2), need(math.MinInt, math.MinInt, 1, 2),
		need(0, 4, 1, 2), need(1, 3, 1, 2), need(2, 2, 1, 2), need(3, 1, 1, 2), need(3, 2, 1, 2), need(math.MaxInt, 2, 1, 2),
		need(0, math.MaxInt, 1, 2), need(2, math.MaxInt, 1, 2), need(math.MaxInt, math.MaxInt, 1, 2), need(math.MaxInt, math.MinInt, 1, 2))
	for _, size := range []api.Size{{Kind: -1}, {Kind: 3}, {N: 1}, {N: -1}, {Kind: api.SizeLen, N: -1}, {Kind: api.SizeLen, N: px + 1}, {Kind: api.SizeShare, N: -1}, {Kind: api.SizeShare, N: share + 1}} {
		one := need(0, 2, 1, 2)
		one.Want = size
		l = append(l, one)
	}
	return l
}

// P14.2: needs have to be valid where there are as many columns as bands, those of one column too.
func TestWrongNeeds(t *testing.T) {
	l := bands(free(0, 9), free(5, 5), api.Band{Min: 1, Max: 3, Share: 40, Want: -1})
	right := needs(need(0, 3, 60, 70), need(2, 1, 8, 9), need(1, 2, 20, 30))
	holdNeeds(t, "right needs", l, right, 3, true)
	for _, wrong := range wrongNeeds() {
		holdNeeds(t, "a wrong need alone", l, needs(wrong), 3, false)
		for at := range 4 {
			holdNeeds(t, "a wrong need", l, slices.Insert(slices.Clone(right), at, wrong), 3, false)
		}
		if wrong.Place.Col == 0 && wrong.Place.Cols == 2 {
			wrong.Place.Cols = 1
			holdNeeds(t, "a wrong need of one column", l, append(slices.Clone(right), wrong), 3, false)
		}
		holdNeeds(t, "a wrong need of no columns", nil, needs(wrong), 3, false)
	}
	for many := range 6 {
		for col := -1; col < 7; col++ {
			for cols := -1; cols < 7; cols++ {
				holdNeeds(t, "a place", alike(many), needs(need(col, cols, 60, 70)), 3, col >= 0 && cols >= 1 && col+cols <= many)
			}
		}
	}
}

// alike has so many bands, all from 3 to 5.
func alike(many int) []api.Band { return slices.Repeat(bands(free(3, 5)), many) }

// P14.2: the gap has its bounds, whether or not there are needs.
func TestGaps(t *testing.T) {
	for _, gap := range list(math.MinInt64, -px, -2, -1, 0, 1, 2, px-1, px, px+1, px+2, 1<<32, wide, math.MaxInt64) {
		right := gap >= 0 && gap <= px
		holdNeeds(t, "no bands", nil, nil, gap, right)
		holdNeeds(t, "no needs", alike(2), nil, gap, right)
		holdNeeds(t, "one column", alike(2), needs(need(1, 1, 1, 2)), gap, right)
		holdNeeds(t, "two columns", alike(2), needs(need(0, 2, 50, wide)), gap, right)
	}
	wantNeeds(t, alike(100), needs(need(0, 100, 99*px+700, 99*px+1500)), px, slices.Repeat(bands(free(7, 15)), 100))
}

// P14.2: there are at most 100 bands and 1000 needs.
func TestCounts(t *testing.T) {
	for _, many := range []int{0, 1, 99, 100, 101, 102, 1000, 10000, 10001, 65537} {
		holdNeeds(t, "bands", alike(many), nil, 0, many <= 100)
		holdNeeds(t, "bands and a need", alike(many), needs(need(0, many, 1, 2)), 0, 0 < many && many <= 100)
	}
	for _, many := range []int{0, 1, 999, 1000, 1001, 1002, 10000, 65537} {
		for _, one := range needs(need(0, 1, 1, 2), need(0, 2, 50, 60), need(1, 2, 50, 60)) {
			holdNeeds(t, "needs", alike(3), slices.Repeat(needs(one), many), 0, many <= 1000)
			holdNeeds(t, "needs and as many bands as there may be", alike(100), slices.Repeat(needs(one), many), 0, many <= 1000)
		}
	}
	all := slices.Repeat(needs(need(0, 2, 50, 60)), 1000)
	all[999].Min = -1
	holdNeeds(t, "the last need wrong", alike(2), all, 0, false)
	l := alike(100)
	l[99].Min = 6
	holdNeeds(t, "the last band wrong", l, nil, 0, false)
}

// P14.2, P14.3: random bands and needs, against the chapter's words; Maxs stay within their bound.
func TestNeedsRandom(t *testing.T) {
	var n numbers = 142
	changed := 0
	for range 20000 {
		cols := 1 + n.below(6)
		l, all, gap := n.bands(cols), n.needs(cols, n.below(9)), n.gap()
		want := byWords(l, all, gap)
		wantNeeds(t, l, all, gap, want)
		holdProperties(t, l, all, gap)
		if t.Failed() {
			return
		}
		if !slices.Equal(l, want) {
			changed++
		}
	}
	if changed < 5000 {
		t.Errorf("only %d of 20000 were changed", changed)
	}
}

// P14.3: no Min, and no Max, gets smaller; the columns of a cell of several are wide enough for it, so that its needs change nothing a second time.
func holdProperties(t *testing.T, l []api.Band, all []api.Need, gap int64) {
	t.Helper()
	got, err := spread.Needs(l, all, gap)
	if err != api.OK || len(got) != len(l) || !columns.RightBands(got) {
		t.Fatalf("Needs(%v, %v, %d) = %v, error %d", few(l), few(all), gap, few(got), err)
	}
	for col, b := range l {
		if got[col].Min < b.Min || got[col].Max < b.Max || got[col].Share != b.Share || got[col].Want != b.Want {
			t.Errorf("Needs(%v, %v, %d): column %d is %v", few(l), few(all), gap, col, got[col])
		}
	}
	for _, n := range all {
		p := n.Place
		least, most, _ := columns.Sums(got[p.Col : p.Col+p.Cols])
		gaps := gap * int64(p.Cols-1)
		if p.Cols > 1 && (fixed.Add(least, gaps) < n.Min || fixed.Add(most, gaps) < n.Max) {
			t.Errorf("Needs(%v, %v, %d) = %v: from %d to %d, with gaps of %d, for %v", few(l), few(all), gap, few(got), least, most, gaps, n)
		}
	}
	wantNeeds(t, got, all, gap, got)
}

// P14.2: needs with other numbers of columns may stand anywhere between: only the order of equally many counts.
func TestOrders(t *testing.T) {
	var n numbers = 143
	for range 3000 {
		cols := 2 + n.below(4)
		l, all, gap := n.bands(cols), n.needs(cols, 2+n.below(6)), n.gap()
		want := byWords(l, all, gap)
		for range 20 {
			at := n.below(len(all) - 1)
			if all[at].Place.Cols != all[at+1].Place.Cols {
				all[at], all[at+1] = all[at+1], all[at]
			}
			wantNeeds(t, l, all, gap, want)
		}
		if t.Failed() {
			return
		}
	}
}

// P14.2, P14.3: as many bands and needs as there may be.
func TestNeedsMany(t *testing.T) {
	var n numbers = 144
	for range 3 {
		l, all, gap := n.bands(100), n.needs(100, 1000), n.gap()
		wantNeeds(t, l, all, gap, byWords(l, all, gap))
		holdProperties(t, l, all, gap)
	}
	widest := slices.Repeat(bands(free(wide, wide)), 100)
	wantNeeds(t, widest, slices.Repeat(needs(need(0, 100, wide, wide)), 1000), 0, widest)
	small := slices.Repeat(bands(free(0, wide)), 100)
	all := slices.Repeat(needs(need(0, 100, wide, wide), need(0, 50, wide, wide), need(50, 50, wide, wide)), 333)
	wantNeeds(t, small, all, 0, byWords(small, all, 0))
	holdProperties(t, small, all, 0)
}

// P14.2: what is given to Needs is not written to, in its spare capacity neither, and an answer shares memory with nothing.
func TestNeedsMemory(t *testing.T) {
	wholeBands := bands(free(10, 20), free(10, 60), free(0, 0), free(1, 2), free(3, 4))
	wholeNeeds := needs(need(0, 3, 100, 100), need(0, 2, 42, 122), need(2, 1, 900, 900), need(0, 2, 7, 8), need(0, 2, 9, 10))
	beforeBands, beforeNeeds := slices.Clone(wholeBands), slices.Clone(wholeNeeds)
	for many := range 4 {
		l, all := wholeBands[:3], wholeNeeds[:many]
		first, _ := spread.Needs(l, all, 2)
		want := slices.Clone(first)
		second, _ := spread.Needs(l, all, 2)
		whole := first[:cap(first)]
		for i := range whole {
			whole[i] = free(-9, -9)
		}
		if !slices.Equal(wholeBands, beforeBands) || !slices.Equal(wholeNeeds, beforeNeeds) {
			t.Error("bands or needs were written to")
		}
		if !slices.Equal(second, want) {
			t.Error("two answers share memory")
		}
		wantNeeds(t, l, all, 2, byWords(l, all, 2))
	}
}
