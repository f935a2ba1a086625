package edges_test

import (
	"math"
	"slices"
	"testing"

	"purfling/api"
	"purfling/edges"
)

const (
	px   = 1073741824
	many = 10000
)

// numbers answers the same numbers below a bound on every run, so that a test that fails fails again.
type numbers uint64

func (n *numbers) below(bound int64) int64 {
	*n = *n*6364136223846793005 + 1442695040888963407
	return int64(uint64(*n)>>1) % bound
}

// bands are up to so many, and up to that size.
func (n *numbers) bands(most int64, size int64) []int64 {
	l := make([]int64, n.below(most+1))
	for i := range l {
		l[i] = n.below(size + 1)
	}
	return l
}

// wrongLengths are neither bands nor gaps.
func wrongLengths() []int64 {
	return []int64{math.MinInt64, math.MinInt64 + 1, -px - 1, -px, -2, -1, px + 1, px + 2, 1 << 31, 1 << 32, 1<<32 + 1, 1 << 62, math.MaxInt64 - 1, math.MaxInt64}
}

// few keeps messages short.
func few[E any](l []E) []E { return l[:min(len(l), 20)] }

// startOf adds up all that is before a band: so many gaps, the one before it among them, and so many bands.
func startOf(bands []int64, gap int64, at int) int64 {
	start := gap
	for _, band := range bands[:at] {
		start += band + gap
	}
	return start
}

func extentOf(bands []int64, gap int64) int64 {
	if len(bands) == 0 {
		return 0
	}
	all := gap * int64(len(bands)+1)
	for _, band := range bands {
		all += band
	}
	return all
}

func spanOf(bands []int64, gap int64, from int, n int) int64 {
	if n == 0 {
		return 0
	}
	last := from + n - 1
	return startOf(bands, gap, last) + bands[last] - startOf(bands, gap, from)
}

func wantBands(t *testing.T, bands []int64, gap int64, begins []int64, extent int64) {
	t.Helper()
	if !edges.Right(bands, gap) {
		t.Errorf("%d bands %d with the gap %d are not Right", len(bands), few(bands), gap)
	}
	if got, err := edges.Begins(bands, gap); !slices.Equal(got, begins) || err != api.OK {
		t.Errorf("Begins of %d bands %d with the gap %d = %d, %d, want %d", len(bands), few(bands), gap, few(got), err, few(begins))
	}
	if got, err := edges.Extent(bands, gap); got != extent || err != api.OK {
		t.Errorf("Extent of %d bands %d with the gap %d = %d, %d, want %d", len(bands), few(bands), gap, got, err, extent)
	}
}

func wantSpan(t *testing.T, bands []int64, gap int64, from int, n int, want int64) {
	t.Helper()
	if got, err := edges.Span(bands, gap, from, n); got != want || err != api.OK {
		t.Errorf("Span of %d bands %d with the gap %d, from %d, %d = %d, %d, want %d", len(bands), few(bands), gap, from, n, got, err, want)
	}
}

// P10.1: the examples of the chapter, and others written out.
func TestBeginsAndExtent(t *testing.T) {
	for _, c := range []struct {
		bands  []int64
		gap    int64
		begins []int64
		extent int64
	}{
		{[]int64{5, 7, 0, 3}, 2, []int64{2, 9, 18, 20}, 25},
		{[]int64{5, 7}, 2, []int64{2, 9}, 18},
		{[]int64{5, 7, 0, 3}, 0, []int64{0, 5, 12, 12}, 15},
		{[]int64{5}, 2, []int64{2}, 9},
		{[]int64{5}, 0, []int64{0}, 5},
		{[]int64{0}, 0, []int64{0}, 0},
		{[]int64{0}, 3, []int64{3}, 6},
		{[]int64{0, 0, 0}, 0, []int64{0, 0, 0}, 0},
		{[]int64{0, 0, 0}, 3, []int64{3, 6, 9}, 12},
		{[]int64{9, 8, 7}, 1, []int64{1, 11, 20}, 28},
		{[]int64{7, 8, 9}, 1, []int64{1, 9, 18}, 28},
		{[]int64{0, 4, 0}, 10, []int64{10, 20, 34}, 44},
		{[]int64{px}, px, []int64{px}, 3 * px},
		{[]int64{px, px}, px, []int64{px, 3 * px}, 5 * px},
		{[]int64{px, 0, px}, 1, []int64{1, px + 2, px + 3}, 2*px + 4},
		{nil, 0, nil, 0},
		{nil, 5, nil, 0},
		{[]int64{}, 5, nil, 0},
		{nil, px, nil, 0},
	} {
		wantBands(t, c.bands, c.gap, c.begins, c.extent)
	}
}

// P10.1: the spans of the chapter's example, and others written out: those of no bands are 0 wherever they are, and what is before the first band or behind the last doesn't count.
func TestSpan(t *testing.T) {
	bands := []int64{5, 7, 0, 3}
	for _, c := range []struct {
		gap     int64
		from, n int
		want    int64
	}{
		{2, 0, 4, 21}, {2, 0, 3, 16}, {2, 0, 2, 14}, {2, 0, 1, 5}, {2, 0, 0, 0},
		{2, 1, 3, 14}, {2, 1, 2, 9}, {2, 1, 1, 7}, {2, 1, 0, 0},
		{2, 2, 2, 5}, {2, 2, 1, 0}, {2, 2, 0, 0}, {2, 3, 1, 3}, {2, 3, 0, 0}, {2, 4, 0, 0},
		{0, 0, 4, 15}, {0, 1, 2, 7}, {0, 2, 1, 0}, {0, 4, 0, 0},
		{px, 0, 4, 3*px + 15}, {px, 2, 1, 0}, {px, 2, 2, px + 3}, {px, 0, 0, 0}, {px, 4, 0, 0},
	} {
		wantSpan(t, bands, c.gap, c.from, c.n, c.want)
	}
	for _, gap := range []int64{0, 1, px} {
		wantSpan(t, nil, gap, 0, 0, 0)
		wantSpan(t, []int64{}, gap, 0, 0, 0)
		wantSpan(t, []int64{0, 0, 0}, gap, 0, 3, 2*gap)
	}
}

// P10.1: how many bands there may be, how large they are, and how large the gap.
func TestRight(t *testing.T) {
	for _, gap := range []int64{0, 1, 2, px - 1, px} {
		for _, bands := range [][]int64{
			nil, {}, {0}, {1}, {px - 1}, {px}, {px, 0, px}, {0, px, 0},
			make([]int64, many-1), make([]int64, many), slices.Repeat([]int64{px}, many),
		} {
			if !edges.Right(bands, gap) {
				t.Errorf("%d bands %d with the gap %d are not Right", len(bands), few(bands), gap)
			}
		}
	}
}

// wantWrong holds all functions to what are no bands, whatever else they are given.
func wantWrong(t *testing.T, name string, bands []int64, gap int64) {
	t.Helper()
	if edges.Right(bands, gap) {
		t.Errorf("%s: Right", name)
	}
	if got, err := edges.Begins(bands, gap); len(got) > 0 || err != api.ErrBands {
		t.Errorf("%s: Begins = %d, %d", name, few(got), err)
	}
	if got, err := edges.Extent(bands, gap); got != 0 || err != api.ErrBands {
		t.Errorf("%s: Extent = %d, %d", name, got, err)
	}
	for _, at := range [][2]int{{0, 0}, {0, 1}, {len(bands), 0}, {0, len(bands)}, {0, len(bands) + 1}, {-1, 0}} {
		if got, err := edges.Span(bands, gap, at[0], at[1]); got != 0 || err != api.ErrBands {
			t.Errorf("%s: Span(%d) = %d, %d", name, at, got, err)
		}
	}
	for _, other := range [][]int64{nil, {4}, {0, 3, 0}} {
		for _, g := range []int64{0, 2, -1} {
			for _, l := range [][]api.Place{nil, {{Rows: 1, Cols: 1}}} {
				wantNoCells(t, name+" as columns", l, bands, other, [2]int64{gap, g})
				wantNoCells(t, name+" as rows", l, other, bands, [2]int64{g, gap})
			}
			wantNoGutters(t, name+" as columns", bands, other, [2]int64{gap, g})
			wantNoGutters(t, name+" as rows", other, bands, [2]int64{g, gap})
		}
	}
}

// P10.1 and P10.2: what are no bands, at the bounds and far beyond them, wherever the fault stands.
func TestWrongBands(t *testing.T) {
	for _, wrong := range wrongLengths() {
		wantWrong(t, "a gap", []int64{5, 7, 0, 3}, wrong)
		wantWrong(t, "a gap of no bands", nil, wrong)
		wantWrong(t, "a gap of a band without size", []int64{0}, wrong)
		wantWrong(t, "one band", []int64{wrong}, 2)
		wantWrong(t, "one band without gaps", []int64{wrong}, 0)
		wantWrong(t, "a band and a gap", []int64{wrong}, wrong)
		for at := range 4 {
			bands := []int64{5, 7, 0, 3}
			bands[at] = wrong
			wantWrong(t, "a band of four", bands, 2)
		}
		bands := make([]int64, many)
		bands[many-1] = wrong
		wantWrong(t, "the last band of 10000", bands, 2)
	}
	for _, n := range []int{many + 1, many + 2, 65536, 100000} {
		wantWrong(t, "too many bands", make([]int64, n), 2)
		wantWrong(t, "too many bands without gaps", make([]int64, n), 0)
		wantWrong(t, "too many bands, and a gap", make([]int64, n), -1)
	}
	wantWrong(t, "two wrong bands that add up to a right one", []int64{-1, px + 1}, 2)
	wantWrong(t, "a band that a gap makes up for", []int64{-2}, 2)
}

// P10.1: a span begins at a band or behind the last one, and has no more bands than there are from there on.
func TestWrongSpans(t *testing.T) {
	far := []int{math.MinInt, math.MinInt + 1, -1 << 32, -5, -4, -2, -1, 0, 1, 2, 3, 4, 5, 6, many, many + 1, 1 << 32, 1<<32 + 1, math.MaxInt - 3, math.MaxInt - 1, math.MaxInt}
	for _, bands := range [][]int64{nil, {5}, {5, 7, 0, 3}} {
		for _, from := range far {
			for _, n := range far {
				if from >= 0 && from <= len(bands) && n >= 0 && n <= len(bands)-from {
					wantSpan(t, bands, 2, from, n, spanOf(bands, 2, from, n))
				} else if got, err := edges.Span(bands, 2, from, n); got != 0 || err != api.ErrBands {
					t.Errorf("Span of %d from %d, %d = %d, %d", bands, from, n, got, err)
				}
			}
		}
	}
	roomy := []int64{5, 7, 0, 3}[:2]
	if got, err := edges.Span(roomy, 2, 0, 3); got != 0 || err != api.ErrBands {
		t.Errorf("Span with a band of the spare capacity = %d, %d", got, err)
	}
}

// wantSums holds bands to the words of the chapter: the starts, the extent and all spans are sums.
func wantSums(t *testing.T, bands []int64, gap int64) {
	t.Helper()
	var begins []int64
	for at := range bands {
		begins = append(begins, startOf(bands, gap, at))
	}
	wantBands(t, bands, gap, begins, extentOf(bands, gap))
	for from := range len(bands) + 1 {
		for n := range len(bands) - from + 1 {
			wantSpan(t, bands, gap, from, n, spanOf(bands, gap, from, n))
		}
	}
}

// P10.1: all bands of up to five sizes, and random ones of all sizes, are summed up as the chapter words it.
func TestSums(t *testing.T) {
	for length := range 6 {
		for i := range int(math.Pow(3, float64(length))) {
			bands := make([]int64, length)
			for at := range bands {
				bands[at] = []int64{0, 1, 4}[i%3]
				i /= 3
			}
			for _, gap := range []int64{0, 1, 3} {
				wantSums(t, bands, gap)
			}
		}
	}
	var n numbers = 1
	for range 500 {
		size := []int64{1, 100, px}[n.below(3)]
		wantSums(t, n.bands(12, size), n.below(size+1))
		if t.Failed() {
			return
		}
	}
}

// P10.1: as many bands as there may be, as large as they may be, to the last unit.
func TestMostBands(t *testing.T) {
	for _, c := range []struct{ band, gap int64 }{{px, px}, {px - 1, px}, {px, px - 1}, {px, 0}, {0, px}, {0, 0}, {1, 0}, {0, 1}} {
		bands := slices.Repeat([]int64{c.band}, many)
		begins := make([]int64, many)
		for at := range begins {
			begins[at] = int64(at)*(c.band+c.gap) + c.gap
		}
		wantBands(t, bands, c.gap, begins, many*c.band+(many+1)*c.gap)
		wantSpan(t, bands, c.gap, 0, many, many*c.band+(many-1)*c.gap)
		wantSpan(t, bands, c.gap, 1, many-1, (many-1)*c.band+(many-2)*c.gap)
		wantSpan(t, bands, c.gap, many-1, 1, c.band)
		wantSpan(t, bands, c.gap, many, 0, 0)
	}
}

// roomy is the list with spare capacity, and something in it.
func roomy[E any](l []E, spare E) []E {
	return append(slices.Clone(l), spare, spare, spare)[:len(l)]
}

// whole is the list with what is in its spare capacity.
func whole[E any](l []E) []E { return l[:cap(l)] }

// P10.1 and P10.2: nothing that is given is written to, in its spare capacity neither, and an answer shares memory with nothing.
func TestMemory(t *testing.T) {
	cols, rows := roomy([]int64{5, 7, 0}, -9), roomy([]int64{10, 20}, -9)
	places := roomy([]api.Place{{Node: 3, Rows: 2, Cols: 1}, {Col: 1, Rows: 1, Cols: 2}}, api.Place{Node: -9})
	cols0, rows0, places0 := slices.Clone(whole(cols)), slices.Clone(whole(rows)), slices.Clone(whole(places))
	gaps := [2]int64{2, 1}
	answer := func() ([]int64, []api.Rect, []api.Rect) {
		begins, _ := edges.Begins(cols, gaps[0])
		cells, _ := edges.Cells(places, cols, rows, gaps)
		gutters, _ := edges.Gutters(cols, rows, gaps)
		edges.Right(cols, gaps[0])
		edges.Extent(cols, gaps[0])
		edges.Span(cols, gaps[0], 0, 2)
		return begins, cells, gutters
	}
	begins, cells, gutters := answer()
	begins0, cells0, gutters0 := slices.Clone(begins), slices.Clone(cells), slices.Clone(gutters)
	for at := range whole(begins) {
		whole(begins)[at] = -7
	}
	for _, l := range [][]api.Rect{cells, gutters} {
		for at := range whole(l) {
			whole(l)[at] = api.Rect{X: -7}
		}
	}
	if !slices.Equal(whole(cols), cols0) || !slices.Equal(whole(rows), rows0) || !slices.Equal(whole(places), places0) {
		t.Error("an argument was written to, or shares memory with an answer")
	}
	begins, cells, gutters = answer()
	if !slices.Equal(begins, begins0) || !slices.Equal(cells, cells0) || !slices.Equal(gutters, gutters0) {
		t.Error("an answer shares memory with another one")
	}
}
