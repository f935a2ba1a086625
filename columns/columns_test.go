package columns_test

import (
	"math"
	"slices"
	"testing"

	"purfling/api"
	"purfling/columns"
)

const (
	px    = 1073741824
	share = 10000000
	wide  = 1125899906842623
	bands = 10000
)

func auto() api.Size { return api.Size{} }

func length(n int64) api.Size { return api.Size{Kind: api.SizeLen, N: n} }

func part(n int64) api.Size { return api.Size{Kind: api.SizeShare, N: n} }

func band(least int64, most int64, share int64, want int64) api.Band {
	return api.Band{Min: least, Max: most, Share: share, Want: want}
}

// need has its first column, and how many it has.
func need(col int, cols int, least int64, most int64, want api.Size) api.Need {
	return api.Need{Place: api.Place{Col: col, Cols: cols, Rows: 1}, Min: least, Max: most, Want: want}
}

func cell(col int, least int64, most int64, want api.Size) api.Need {
	return need(col, 1, least, most, want)
}

func sizes(l ...api.Size) []api.Size { return l }

func needs(l ...api.Need) []api.Need { return l }

// numbers answers the same numbers below a bound on every run, so that a test that fails fails again.
type numbers uint64

func (n *numbers) below(bound int) int {
	*n = *n*6364136223846793005 + 1442695040888963407
	return int(uint64(*n)>>33) % bound
}

func (n *numbers) of(l ...int64) int64 { return l[n.below(len(l))] }

// size is computed, and often at a bound.
func (n *numbers) size() api.Size {
	switch n.below(3) {
	case 0:
		return length(n.of(0, 1, px-1, px, int64(n.below(50)), int64(n.below(50))))
	case 1:
		return part(n.of(0, 1, share, int64(n.below(50)), int64(n.below(10000))))
	}
	return auto()
}

// need is valid where there are so many columns, and mostly of one of them.
func (n *numbers) need(cols int) api.Need {
	col := n.below(cols)
	one := need(col, 1, int64(n.below(60)), 0, n.size())
	if n.below(4) == 0 {
		one.Place.Cols = 1 + n.below(cols-col)
	}
	if n.below(9) == 0 {
		one.Min = n.of(0, px, wide-1, wide)
	}
	one.Max = min(one.Min+n.of(0, 0, int64(n.below(60)), px, wide), wide)
	return one
}

// some are valid: up to so many columns, and needs of them.
func (n *numbers) some(cols int, many int) ([]api.Size, []api.Need) {
	var s []api.Size
	var l []api.Need
	for range n.below(cols + 1) {
		s = append(s, n.size())
	}
	for range n.below(many + 1) {
		if len(s) > 0 {
			l = append(l, n.need(len(s)))
		}
	}
	return s, l
}

// byWords goes through the words of the chapter one by one.
func byWords(s []api.Size, l []api.Need) []api.Band {
	var all []api.Band
	for col, size := range s {
		b := api.Band{Share: -1, Want: -1}
		if size.Kind == api.SizeLen {
			b.Want = size.N
		}
		if size.Kind == api.SizeShare {
			b.Share = size.N
		}
		for _, n := range l {
			if n.Place.Col != col || n.Place.Cols != 1 {
				continue
			}
			if b.Min < n.Min {
				b.Min = n.Min
			}
			if b.Max < n.Max {
				b.Max = n.Max
			}
			if n.Want.Kind == api.SizeShare && b.Share < n.Want.N {
				b.Share = n.Want.N
			}
			if n.Want.Kind == api.SizeLen && b.Want < n.Want.N {
				b.Want = n.Want.N
			}
		}
		if b.Share >= 0 {
			b.Want = -1
		}
		if b.Want >= 0 {
			b.Max = max(b.Want, b.Min)
		}
		all = append(all, b)
	}
	return all
}

func wantBands(t *testing.T, s []api.Size, l []api.Need, want []api.Band) {
	t.Helper()
	if !columns.Right(s, l) {
		t.Errorf("Right(%v, %v) = false", s, l)
	}
	if got, err := columns.Bands(s, l); err != api.OK || !slices.Equal(got, want) {
		t.Errorf("Bands(%v, %v) = %v, error %d, want %v", s, l, got, err, want)
	}
}

func hold(t *testing.T, name string, s []api.Size, l []api.Need, right bool) {
	t.Helper()
	if got := columns.Right(s, l); got != right {
		t.Errorf("%s: Right = %t, want %t", name, got, right)
	}
	got, err := columns.Bands(s, l)
	if right && (err != api.OK || len(got) != len(s)) {
		t.Errorf("%s: Bands = %d bands of %d columns, error %d", name, len(got), len(s), err)
	}
	if !right && (err != api.ErrWidth || len(got) != 0) {
		t.Errorf("%s: Bands = %d bands, error %d, want %d", name, len(got), err, api.ErrWidth)
	}
}

// P13.1: the bands of one column, written out; the first two are the chapter's examples.
func TestOneColumn(t *testing.T) {
	for _, c := range []struct {
		size api.Size
		l    []api.Need
		want api.Band
	}{
		{length(100), needs(cell(0, 30, 300, auto())), band(30, 100, -1, 100)},
		{auto(), needs(cell(0, 30, 300, auto())), band(30, 300, -1, -1)},

		{auto(), nil, band(0, 0, -1, -1)},
		{length(0), nil, band(0, 0, -1, 0)},
		{length(100), nil, band(0, 100, -1, 100)},
		{length(px), nil, band(0, px, -1, px)},
		{part(0), nil, band(0, 0, 0, -1)},
		{part(2500), nil, band(0, 0, 2500, -1)},
		{part(share), nil, band(0, 0, share, -1)},

		{length(100), needs(cell(0, 30, 40, auto())), band(30, 100, -1, 100)},
		{length(100), needs(cell(0, 99, 100, auto())), band(99, 100, -1, 100)},
		{length(100), needs(cell(0, 100, 100, auto())), band(100, 100, -1, 100)},
		{length(100), needs(cell(0, 101, 300, auto())), band(101, 101, -1, 100)},
		{length(0), needs(cell(0, 0, 300, auto())), band(0, 0, -1, 0)},
		{length(0), needs(cell(0, 5, 300, auto())), band(5, 5, -1, 0)},
		{length(px), needs(cell(0, wide, wide, auto())), band(wide, wide, -1, px)},
		{part(2500), needs(cell(0, 30, 300, auto())), band(30, 300, 2500, -1)},
		{part(0), needs(cell(0, 30, 300, auto())), band(30, 300, 0, -1)},

		{auto(), needs(cell(0, 30, 300, length(40))), band(30, 40, -1, 40)},
		{auto(), needs(cell(0, 30, 300, length(20))), band(30, 30, -1, 20)},
		{auto(), needs(cell(0, 30, 300, length(0))), band(30, 30, -1, 0)},
		{auto(), needs(cell(0, 30, 300, length(400))), band(30, 400, -1, 400)},
		{auto(), needs(cell(0, 0, 0, length(px))), band(0, px, -1, px)},
		{auto(), needs(cell(0, 30, 300, part(40))), band(30, 300, 40, -1)},
		{auto(), needs(cell(0, 30, 300, part(0))), band(30, 300, 0, -1)},
		{auto(), needs(cell(0, 0, 0, part(share))), band(0, 0, share, -1)},

		{length(100), needs(cell(0, 30, 300, length(99))), band(30, 100, -1, 100)},
		{length(100), needs(cell(0, 30, 300, length(101))), band(30, 101, -1, 101)},
		{length(100), needs(cell(0, 30, 300, part(0))), band(30, 300, 0, -1)},
		{length(100), needs(cell(0, 30, 300, part(7))), band(30, 300, 7, -1)},
		{part(100), needs(cell(0, 30, 300, part(99))), band(30, 300, 100, -1)},
		{part(100), needs(cell(0, 30, 300, part(101))), band(30, 300, 101, -1)},
		{part(0), needs(cell(0, 30, 300, length(101))), band(30, 300, 0, -1)},
		{part(100), needs(cell(0, 30, 300, length(101))), band(30, 300, 100, -1)},

		{auto(), needs(cell(0, 30, 300, auto()), cell(0, 20, 400, auto())), band(30, 400, -1, -1)},
		{auto(), needs(cell(0, 20, 400, auto()), cell(0, 30, 300, auto())), band(30, 400, -1, -1)},
		{auto(), needs(cell(0, 1, 2, auto()), cell(0, 50, 60, auto()), cell(0, 3, 4, auto())), band(50, 60, -1, -1)},
		{auto(), needs(cell(0, 1, 200, length(50)), cell(0, 60, 70, auto())), band(60, 60, -1, 50)},
		{auto(), needs(cell(0, 1, 200, length(50)), cell(0, 1, 2, length(80))), band(1, 80, -1, 80)},
		{auto(), needs(cell(0, 1, 200, length(80)), cell(0, 1, 2, length(50))), band(1, 80, -1, 80)},
		{auto(), needs(cell(0, 1, 200, length(80)), cell(0, 1, 2, part(3))), band(1, 200, 3, -1)},
		{auto(), needs(cell(0, 1, 200, part(3)), cell(0, 1, 2, length(80))), band(1, 200, 3, -1)},
		{auto(), needs(cell(0, 1, 200, part(3)), cell(0, 1, 2, part(4)), cell(0, 1, 2, part(2))), band(1, 200, 4, -1)},
		{length(90), needs(cell(0, 1, 200, length(80)), cell(0, 1, 2, length(70))), band(1, 90, -1, 90)},
		{part(90), needs(cell(0, 1, 200, part(80)), cell(0, 1, 2, part(70))), band(1, 200, 90, -1)},
		{auto(), needs(cell(0, 0, 0, auto())), band(0, 0, -1, -1)},
		{auto(), needs(cell(0, 0, wide, auto())), band(0, wide, -1, -1)},
		{part(1), needs(cell(0, wide, wide, auto())), band(wide, wide, 1, -1)},
	} {
		wantBands(t, sizes(c.size), c.l, []api.Band{c.want})
	}
}

// P13.1: a need changes the band of its column only, and none if it has several.
func TestSeveralColumns(t *testing.T) {
	none := band(0, 0, -1, -1)
	wantBands(t, nil, nil, nil)
	wantBands(t, sizes(), needs(), []api.Band{})
	wantBands(t, make([]api.Size, 3), nil, []api.Band{none, none, none})
	for col := range 3 {
		want := []api.Band{none, none, none}
		want[col] = band(5, 9, -1, -1)
		wantBands(t, make([]api.Size, 3), needs(cell(col, 5, 9, auto())), want)
		want[col] = band(5, 7, -1, 7)
		wantBands(t, make([]api.Size, 3), needs(cell(col, 5, 9, length(7))), want)
		want[col] = band(5, 9, 7, -1)
		wantBands(t, make([]api.Size, 3), needs(cell(col, 5, 9, part(7))), want)
		for cols := 2; col+cols <= 3; cols++ {
			for _, size := range sizes(auto(), length(7), part(7)) {
				wantBands(t, make([]api.Size, 3), needs(need(col, cols, 5, 9, size)), []api.Band{none, none, none})
			}
		}
	}
	wantBands(t,
		sizes(length(100), auto(), part(2000)),
		needs(cell(2, 5, 50, length(70)), need(0, 3, 900, 900, length(900)), cell(0, 120, 130, auto()), need(1, 2, 800, 900, part(900)), cell(1, 6, 20, length(8)), cell(0, 1, 2, length(99))),
		[]api.Band{band(120, 120, -1, 100), band(6, 8, -1, 8), band(5, 50, 2000, -1)})
}

// P13.1: rows and nodes of places make no difference.
func TestOnlyColumnsCount(t *testing.T) {
	for _, n := range []int{math.MinInt, -1, 0, 1, 10000, 65537, math.MaxInt} {
		for _, p := range []api.Place{
			{Node: n, Col: 1, Cols: 1, Rows: 1},
			{Row: n, Col: 1, Cols: 1, Rows: 1},
			{Rows: n, Col: 1, Cols: 1},
			{Node: n, Row: n, Rows: n, Col: 1, Cols: 1},
		} {
			wantBands(t, make([]api.Size, 2), needs(api.Need{Place: p, Min: 4, Max: 6}), []api.Band{band(0, 0, -1, -1), band(4, 6, -1, -1)})
		}
	}
	same := cell(0, 4, 6, auto())
	wantBands(t, make([]api.Size, 1), needs(same, same, same), []api.Band{band(4, 6, -1, -1)})
}

// far are numbers beyond all bounds, some of which are within them if cut to fewer bits.
var far = []int64{math.MinInt64, math.MinInt64 + 1, -wide, -1 << 32, -px, -share, -2, -1, 1 << 51, 1<<51 + 1, 1<<62 + 3, math.MaxInt64 - 1, math.MaxInt64}

// trial is a size, and whether it is computed.
type trial struct {
	size  api.Size
	right bool
}

func trials() []trial {
	var l []trial
	for _, n := range append(slices.Clone(far), 0, 1, 2, share-1, share, share+1, px-1, px, px+1, 1<<32, 1<<32+1, wide) {
		for _, kind := range []int{math.MinInt, -1 << 32, -2, -1, 3, 4, 1 << 32, 1<<32 + 1, math.MaxInt} {
			l = append(l, trial{api.Size{Kind: kind, N: n}, false})
		}
		l = append(l,
			trial{api.Size{Kind: api.SizeAuto, N: n}, n == 0},
			trial{length(n), 0 <= n && n <= px},
			trial{part(n), 0 <= n && n <= share})
	}
	return l
}

func whether(is bool) int {
	if is {
		return 1
	}
	return 0
}

// P13.1: sizes of columns, and those that cells want, have to be computed, wherever they stand.
func TestSizes(t *testing.T) {
	for _, one := range trials() {
		size, right := one.size, one.right
		for at := range 3 {
			s := sizes(length(px), auto(), part(share))
			s[at] = size
			hold(t, "size of a column", s, nil, right)
			hold(t, "size of a column with a cell", s, needs(cell(at, 3, 5, auto())), right)
			l := needs(cell(0, 3, 5, length(px)), cell(1, 4, 6, auto()), need(0, 3, 5, 7, part(share)))
			l[at].Want = size
			hold(t, "size that a cell wants", make([]api.Size, 3), l, right)
		}
		hold(t, "size of the only column", sizes(size), nil, right)
		hold(t, "size that the only cell wants", sizes(auto()), needs(cell(0, 3, 5, size)), right)
	}
}

// P13.1: there are at most 10000 sizes, whatever else there is.
func TestMostSizes(t *testing.T) {
	for _, many := range []int{0, 1, 9999, 10000, 10001, 10002, 20000, 65536} {
		for _, size := range sizes(auto(), length(5), part(5)) {
			s := slices.Repeat(sizes(size), many)
			hold(t, "many sizes", s, nil, many <= bands)
			hold(t, "many sizes, and a cell", s, needs(cell(0, 1, 2, auto())), 0 < many && many <= bands)
			hold(t, "many sizes, and a cell of all", s, needs(need(0, many, 1, 2, auto())), 0 < many && many <= bands)
			hold(t, "many sizes, and a cell at the end", s, needs(cell(many-1, 1, 2, auto())), 0 < many && many <= bands)
		}
	}
}

// P13.1: Min and Max have their bounds, and Min is at most Max, in each of the needs.
func TestLengths(t *testing.T) {
	l := append(slices.Clone(far), 0, 1, 2, px, px+1, 1<<49, wide-1, wide, wide+1, 1<<50+1)
	for _, least := range l {
		for _, most := range l {
			right := 0 <= least && least <= most && most <= wide
			for at := range 3 {
				all := needs(cell(0, 3, 5, auto()), need(0, 2, 4, 6, length(9)), cell(1, 1, 1, part(9)))
				all[at].Min, all[at].Max = least, most
				hold(t, "a length", make([]api.Size, 2), all, right)
			}
			hold(t, "a length alone", make([]api.Size, 1), needs(cell(0, least, most, auto())), right)
		}
	}
}

// P13.1: places have at least one column, and lie within the columns.
func TestPlaces(t *testing.T) {
	for many := range 5 {
		for col := -2; col <= 6; col++ {
			for cols := -2; cols <= 6; cols++ {
				holdPlace(t, many, col, cols, 0 <= col && 1 <= cols && col+cols <= many)
			}
		}
		for _, n := range []int{math.MinInt, math.MinInt + 1, -1 << 32, 1 << 32, 1<<32 + 1, 1 << 62, math.MaxInt - 1, math.MaxInt} {
			for other := range many + 1 {
				holdPlace(t, many, n, other, false)
				holdPlace(t, many, other, n, false)
				holdPlace(t, many, n, other-n, false)
				holdPlace(t, many, other-n, n, false)
			}
			holdPlace(t, many, n, n, false)
		}
	}
}

func holdPlace(t *testing.T, many int, col int, cols int, right bool) {
	t.Helper()
	s := make([]api.Size, many)
	hold(t, "a place alone", s, needs(need(col, cols, 1, 2, auto())), right)
	if many == 0 {
		return
	}
	for at := range 3 {
		l := needs(cell(0, 1, 2, auto()), need(0, many, 1, 2, auto()))
		hold(t, "a place among others", s, slices.Insert(l, at, need(col, cols, 1, 2, auto())), right)
	}
}

// P13.1: a need is wrong where there are no columns.
func TestNoColumns(t *testing.T) {
	for col := -1; col <= 1; col++ {
		for cols := -1; cols <= 1; cols++ {
			hold(t, "no columns", nil, needs(need(col, cols, 0, 0, auto())), false)
		}
	}
	hold(t, "nothing", nil, nil, true)
	hold(t, "nothing, empty", sizes(), needs(), true)
}

// P13.1: needs that are wrong in several ways, one behind the other or apart.
func TestSeveralWrongNeeds(t *testing.T) {
	right := cell(0, 1, 2, auto())
	wrong := needs(cell(1, 1, 2, auto()), cell(0, 2, 1, auto()), cell(0, -1, 2, auto()), cell(0, 1, 2, length(-1)), need(0, 0, 1, 2, auto()))
	for _, a := range wrong {
		for _, b := range wrong {
			hold(t, "two wrong needs", sizes(auto()), needs(a, b), false)
			hold(t, "two wrong needs apart", sizes(auto()), needs(right, a, right, b, right), false)
			hold(t, "wrong needs, and a wrong size", sizes(length(-1)), needs(a, b, right), false)
		}
	}
	hold(t, "all wrong needs", sizes(auto()), wrong, false)
}

func rightByWords(b api.Band) bool {
	if b.Min < 0 || b.Max < 0 || b.Min > wide || b.Max > wide || b.Min > b.Max {
		return false
	}
	if b.Share < -1 || b.Share > share || b.Want < -1 || b.Want > px {
		return false
	}
	return b.Share == -1 || b.Want == -1
}

// P13.1: each number of a band has its bounds, whatever the others are, and wherever the band stands.
func TestRightBands(t *testing.T) {
	widths := append(slices.Clone(far), 0, 1, 2, px, 1<<49, wide-1, wide, wide+1)
	asked := append(slices.Clone(far), 0, 1, 2, share-1, share, share+1, px-1, px, px+1, 1<<32-1, 1<<32)
	right := 0
	for _, least := range widths {
		for _, most := range widths {
			for _, part := range asked {
				for _, want := range asked {
					b := band(least, most, part, want)
					if got := columns.RightBands([]api.Band{b}); got != rightByWords(b) {
						t.Fatalf("RightBands(%v) = %t", b, got)
					}
					right += whether(rightByWords(b))
				}
			}
		}
	}
	if least := 28; right != least*(1+5+8) { // 28 pairs of widths; no share and no length, 5 shares alone, 8 lengths alone
		t.Errorf("%d bands are right", right)
	}
	for _, wrong := range []api.Band{{}, band(-1, 5, -1, -1), band(6, 5, -1, -1), band(0, wide+1, -1, -1), band(0, 5, -2, -1), band(0, 5, -1, -2), band(0, 5, 0, 0), band(0, 5, 7, 7), band(0, 5, share+1, -1), band(0, 5, -1, px+1)} {
		for at := range 4 {
			l := []api.Band{band(0, wide, -1, -1), band(5, 5, 0, -1), band(wide, wide, -1, 0)}
			if !columns.RightBands(l) || columns.RightBands(slices.Insert(l, at, wrong)) {
				t.Errorf("RightBands with %v at %d", wrong, at)
			}
		}
	}
}

// P13.1: there are at most 10000 bands.
func TestMostBands(t *testing.T) {
	if !columns.RightBands(nil) || !columns.RightBands([]api.Band{}) {
		t.Error("RightBands of nothing = false")
	}
	for _, many := range []int{1, 9999, 10000, 10001, 20000, 65536} {
		l := slices.Repeat([]api.Band{band(3, 5, -1, 4)}, many)
		if got := columns.RightBands(l); got != (many <= bands) {
			t.Errorf("RightBands of %d bands = %t", many, got)
		}
		l[many-1].Want = -2
		if columns.RightBands(l) {
			t.Errorf("RightBands of %d bands, the last one wrong = true", many)
		}
	}
}

// P13.1: sums of Mins, of Maxs, and of the Shares that are there, saturated one by one; bands need not be valid.
func TestSums(t *testing.T) {
	const top, low = math.MaxInt64, math.MinInt64
	for _, c := range []struct {
		l                   []api.Band
		least, most, shares int64
	}{
		{nil, 0, 0, 0},
		{[]api.Band{}, 0, 0, 0},
		{[]api.Band{{}}, 0, 0, 0},
		{[]api.Band{band(1, 20, 300, -1)}, 1, 20, 300},
		{[]api.Band{band(1, 20, -1, 4000)}, 1, 20, 0},
		{[]api.Band{band(1, 20, 300, -1), band(2, 30, -1, -1), band(4, 50, 500, -1), band(8, 80, -1, 9)}, 15, 180, 800},
		{[]api.Band{band(0, 0, -1, 0), band(0, 0, -1, 5)}, 0, 0, 0},
		{[]api.Band{band(-5, -7, -9, -11)}, -5, -7, 0},
		{[]api.Band{band(-5, 7, 9, 5), band(3, -9, -100, 5), band(9, 3, low, 5), band(-9, 4, 1, 5)}, -2, 5, 10},
		{[]api.Band{band(top, low, top, low)}, top, low, top},
		{[]api.Band{band(low, top, low, top)}, low, top, 0},
		{[]api.Band{band(top, low, top, 0), band(1, -1, 1, 0)}, top, low, top},
		{[]api.Band{band(top, low, top, 0), band(1, -1, 1, 0), band(-3, 3, -3, 0)}, top - 3, low + 3, top},
		{[]api.Band{band(low, top, 0, 0), band(-1, 1, 0, 0), band(top, low, 0, 0)}, -1, -1, 0},
		{[]api.Band{band(-3, 3, -3, 0), band(top, low, top, 0), band(1, -1, 1, 0)}, top - 2, low + 2, top},
		{[]api.Band{band(1<<62, -1<<62, 1<<62, 0), band(1<<62, -1<<62, 1<<62, 0), band(-1, -1, -1, 0)}, top - 1, low, top},
		{slices.Repeat([]api.Band{band(0, wide, share, -1)}, 8192), 0, 8192 * wide, 8192 * share},
		{slices.Repeat([]api.Band{band(wide, wide, share, -1)}, 8193), top, top, 8193 * share},
		{slices.Repeat([]api.Band{band(wide-1, wide, share, -1)}, bands), top, top, bands * share},
	} {
		if least, most, shares := columns.Sums(c.l); least != c.least || most != c.most || shares != c.shares {
			t.Errorf("Sums(%v) = %d, %d, %d, want %d, %d, %d", c.l[:min(len(c.l), 5)], least, most, shares, c.least, c.most, c.shares)
		}
	}
}

// P13.1, P13.2: random columns are as the chapter words it, and their bands are valid, with sums made independently.
func TestRandom(t *testing.T) {
	var n numbers = 13
	several := 0
	for range 20000 {
		s, l := n.some(5, 12)
		want := byWords(s, l)
		wantBands(t, s, l, want)
		got, _ := columns.Bands(s, l)
		var least, most, shares int64
		for _, b := range want {
			least, most = least+b.Min, most+b.Max
			if b.Share >= 0 {
				shares += b.Share
			}
		}
		if a, b, c := columns.Sums(got); a != least || b != most || c != shares || !columns.RightBands(got) {
			t.Errorf("bands %v: sums %d, %d, %d, RightBands = %t", got, a, b, c, columns.RightBands(got))
		}
		several += whether(slices.ContainsFunc(l, func(n api.Need) bool { return n.Place.Cols > 1 }))
		if t.Failed() {
			return
		}
	}
	if several < 5000 {
		t.Errorf("only %d of 20000 had a need of several columns", several)
	}
}

// P13.2: in whatever order needs are, the bands are the same.
func TestOrders(t *testing.T) {
	var n numbers = 14
	for range 400 {
		s, l := n.some(2, 5)
		want, _ := columns.Bands(s, l)
		orders(l, 0, func(l []api.Need) { wantBands(t, s, l, want) })
		if t.Failed() {
			return
		}
	}
}

// orders visits all orders of what is behind the first ones.
func orders(l []api.Need, first int, visit func(l []api.Need)) {
	if first == len(l) {
		visit(l)
	}
	for i := first; i < len(l); i++ {
		l[first], l[i] = l[i], l[first]
		orders(l, first+1, visit)
		l[first], l[i] = l[i], l[first]
	}
}

// P13.2: a need more, wherever it stands, decreases no Min.
func TestMoreNeeds(t *testing.T) {
	var n numbers = 15
	for range 5000 {
		s, l := n.some(4, 8)
		if len(s) == 0 {
			continue
		}
		before, _ := columns.Bands(s, l)
		more := n.need(len(s))
		after, err := columns.Bands(s, slices.Insert(slices.Clone(l), n.below(len(l)+1), more))
		if err != api.OK {
			t.Fatalf("Bands(%v, %v and %v): error %d", s, l, more, err)
		}
		for col, b := range before {
			if after[col].Min < b.Min {
				t.Fatalf("Bands(%v, %v): column %d has Min %d, with %v only %d", s, l, col, b.Min, more, after[col].Min)
			}
			if more.Place.Cols == 1 && more.Place.Col == col && after[col].Min < more.Min {
				t.Fatalf("Bands(%v, %v and %v): column %d has Min %d", s, l, more, col, after[col].Min)
			}
		}
	}
}

// P13.1: as many columns as there may be, and far more cells.
func TestMany(t *testing.T) {
	s := make([]api.Size, bands)
	var l []api.Need
	var want []api.Band
	for col := range int64(bands) {
		for i := range int64(30) {
			i = i * 7 % 30
			l = append(l, cell(int(col), col+i, col+i+100, auto()))
		}
		l = append(l, need(0, bands, wide, wide, part(share)))
		want = append(want, band(col+29, col+129, -1, -1))
	}
	wantBands(t, s, l, want)
	l[len(l)-1].Min = -1
	hold(t, "many cells, the last one wrong", s, l, false)
}

// P13.1: nothing that is given is written to, in its spare capacity neither, and an answer shares memory with nothing.
func TestMemory(t *testing.T) {
	wholeSizes := sizes(length(100), auto(), part(20), length(3), length(4))
	wholeNeeds := needs(cell(0, 30, 300, length(7)), need(0, 3, 5, 6, auto()), cell(2, 3, 4, part(5)), cell(1, 1, 1, auto()), cell(1, 9, 9, auto()))
	beforeSizes, beforeNeeds := slices.Clone(wholeSizes), slices.Clone(wholeNeeds)
	s, l := wholeSizes[:3], wholeNeeds[:3]
	first, _ := columns.Bands(s, l)
	want := slices.Clone(first)
	wholeBands := slices.Clone(first)
	columns.Right(s, l)
	columns.RightBands(wholeBands[:2])
	columns.Sums(wholeBands[:2])
	if !slices.Equal(wholeBands, want) {
		t.Error("bands were written to")
	}
	second, _ := columns.Bands(s, l)
	spare := first[:cap(first)]
	for i := range spare {
		spare[i] = band(-7, -7, -7, -7)
	}
	if !slices.Equal(wholeSizes, beforeSizes) || !slices.Equal(wholeNeeds, beforeNeeds) {
		t.Error("sizes or needs were written to")
	}
	if !slices.Equal(second, want) {
		t.Error("two answers share memory")
	}
	wantBands(t, s, l, want)
}
