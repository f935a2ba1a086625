package heights_test

import (
	"math/big"
	"slices"
	"testing"

	"purfling/api"
	"purfling/heights"
)

// leastByWords goes through the words of the chapter one by one.
func leastByWords(wants []int64, l []api.Place, highs []int64, gap int64) []int64 {
	rows := make([]int64, len(wants))
	for row, want := range wants {
		rows[row] = max(0, want)
	}
	for i, p := range l {
		if p.Rows == 1 {
			rows[p.Row] = max(rows[p.Row], highs[i])
		}
	}
	for n := 2; n <= len(rows); n++ {
		for i, p := range l {
			if p.Rows != n {
				continue
			}
			part := max(0, highs[i]-gap*int64(n-1))
			its := rows[p.Row : p.Row+n]
			for j, s := range sharesByWords(excessByWords(big.NewInt(part), its), its) {
				rows[p.Row+j] += s
			}
		}
	}
	return rows
}

func wantLeast(t *testing.T, wants []int64, l []api.Place, highs []int64, gap int64, want []int64) {
	t.Helper()
	if got, err := heights.Least(wants, l, highs, gap); err != api.OK || !slices.Equal(got, want) {
		t.Errorf("Least(%d, %v, %d, %d) = %d, error %d, want %d", few(wants), few(l), few(highs), gap, few(got), err, few(want))
	}
}

// P16.1: one cell, written out; the first one is the chapter's example.
func TestLeastOne(t *testing.T) {
	for _, c := range []struct {
		wants []int64
		at    api.Place
		high  int64
		gap   int64
		want  []int64
	}{
		{list(-1, -1), at(0, 2), 5, 0, list(3, 2)},

		// One row: no gap is taken off, and the row is no lower than it was.
		{list(-1), at(0, 1), 5, 0, list(5)},
		{list(-1), at(0, 1), 5, px, list(5)},
		{list(-1), at(0, 1), 0, 0, list(0)},
		{list(-1), at(0, 1), high, px, list(high)},
		{list(0), at(0, 1), 5, 0, list(5)},
		{list(4), at(0, 1), 5, 0, list(5)},
		{list(5), at(0, 1), 5, 0, list(5)},
		{list(6), at(0, 1), 5, 0, list(6)},
		{list(px), at(0, 1), 5, 0, list(px)},
		{list(px), at(0, 1), px + 1, 0, list(px + 1)},
		{list(-1, -1, -1), at(0, 1), 5, 2, list(5, 0, 0)},
		{list(-1, -1, -1), at(1, 1), 5, 2, list(0, 5, 0)},
		{list(-1, -1, -1), at(2, 1), 5, 2, list(0, 0, 5)},
		{list(7, 8, 9), at(1, 1), 5, 2, list(7, 8, 9)},
		{list(7, 8, 9), at(1, 1), 50, 2, list(7, 50, 9)},

		// Several without heights: evenly, the first ones first.
		{list(-1, -1), at(0, 2), 6, 0, list(3, 3)},
		{list(-1, -1), at(0, 2), 1, 0, list(1, 0)},
		{list(-1, -1), at(0, 2), 0, 0, list(0, 0)},
		{list(0, 0), at(0, 2), 5, 0, list(3, 2)},
		{list(-1, -1, -1), at(0, 3), 11, 0, list(4, 4, 3)},
		{list(-1, -1), at(0, 2), high, 0, list(1<<49, 1<<49-1)},

		// The gaps between the rows are taken off.
		{list(-1, -1), at(0, 2), 10, 3, list(4, 3)},
		{list(-1, -1), at(0, 2), 10, 9, list(1, 0)},
		{list(-1, -1), at(0, 2), 10, 10, list(0, 0)},
		{list(-1, -1), at(0, 2), 10, 11, list(0, 0)},
		{list(-1, -1), at(0, 2), 10, px, list(0, 0)},
		{list(-1, -1, -1), at(0, 3), 10, 3, list(2, 1, 1)},
		{list(-1, -1, -1), at(0, 3), 10, 4, list(1, 1, 0)},
		{list(-1, -1, -1), at(0, 3), 10, 5, list(0, 0, 0)},
		{list(3, 4, 5), at(0, 3), 10, 6, list(3, 4, 5)},

		// Heights are the weights.
		{list(10, -1), at(0, 2), 40, 0, list(40, 0)},
		{list(-1, 10), at(0, 2), 40, 0, list(0, 40)},
		{list(10, 20), at(0, 2), 60, 0, list(20, 40)},
		{list(10, 20), at(0, 2), 62, 2, list(20, 40)},
		{list(10, 20), at(0, 2), 31, 0, list(10, 21)},
		{list(10, 20), at(0, 2), 32, 0, list(11, 21)},
		{list(10, 20), at(0, 2), 30, 0, list(10, 20)},
		{list(10, 20), at(0, 2), 29, 0, list(10, 20)},
		{list(10, 20), at(0, 2), 30, 1, list(10, 20)},
		{list(10, 10), at(0, 2), 25, 0, list(13, 12)},
		{list(10, -1, 30), at(0, 3), 80, 0, list(20, 0, 60)},
		{list(10, 0, 30), at(0, 3), 82, 1, list(20, 0, 60)},
		{list(px, px), at(0, 2), high, 0, list(1<<49, 1<<49-1)},
		{list(1, px), at(0, 2), 2*px + 2, 0, list(2, 2*px)},

		// Rows beside the cell stay as they are, and are no weights.
		{list(7, 10, 20, 9), at(1, 2), 60, 0, list(7, 20, 40, 9)},
		{list(7, -1, -1, 9), at(1, 2), 5, 0, list(7, 3, 2, 9)},
		{list(-1, -1, -1, -1), at(2, 2), 5, 0, list(0, 0, 3, 2)},
		{list(-1, -1, -1, -1), at(0, 3), 5, 0, list(2, 2, 1, 0)},
	} {
		wantLeast(t, c.wants, places(c.at), list(c.high), c.gap, c.want)
		wantLeast(t, c.wants, places(c.at), list(c.high), c.gap, leastByWords(c.wants, places(c.at), list(c.high), c.gap))
	}
}

// P16.1: several cells, written out; the first one is the chapter's example.
func TestLeastSeveral(t *testing.T) {
	none := list(-1, -1, -1)
	for _, c := range []struct {
		wants []int64
		l     []api.Place
		highs []int64
		gap   int64
		want  []int64
	}{
		{list(-1, -1), places(at(0, 1), at(0, 2)), list(10, 40), 0, list(40, 0)},

		// Cells of one row come first, wherever they stand; the highest one counts.
		{list(-1, -1), places(at(0, 2), at(0, 1)), list(40, 10), 0, list(40, 0)},
		{list(-1, -1), places(at(0, 2), at(1, 1)), list(40, 10), 0, list(0, 40)},
		{list(-1, -1), places(at(0, 1), at(0, 2), at(1, 1)), list(10, 60, 20), 0, list(20, 40)},
		{list(-1, -1), places(at(0, 1), at(0, 1), at(0, 1)), list(5, 9, 7), 0, list(9, 0)},
		{list(8, -1), places(at(0, 1), at(0, 1)), list(7, 6), 0, list(8, 0)},
		{list(-1, 20, -1), places(at(0, 3), at(0, 2), at(0, 1), at(2, 1)), list(104, 62, 10, 10), 2, list(29, 57, 14)},

		// Fewer rows first.
		{none, places(at(0, 3), at(0, 2)), list(60, 20), 0, list(30, 30, 0)},
		{none, places(at(0, 2), at(0, 3)), list(20, 60), 0, list(30, 30, 0)},
		{none, places(at(0, 3), at(1, 2)), list(60, 20), 0, list(0, 30, 30)},
		{none, places(at(0, 3), at(0, 2)), list(20, 60), 0, list(30, 30, 0)},

		// Equally many: in their order.
		{none, places(at(0, 2), at(1, 2)), list(20, 40), 0, list(10, 40, 0)},
		{none, places(at(1, 2), at(0, 2)), list(40, 20), 0, list(0, 20, 20)},
		{none, places(at(0, 2), at(0, 3), at(1, 2)), list(20, 10, 40), 0, list(10, 40, 0)},
		{none, places(at(1, 2), at(0, 3), at(0, 2)), list(40, 10, 20), 0, list(0, 20, 20)},
		{none, places(at(0, 2), at(0, 2)), list(20, 40), 0, list(20, 20, 0)},
		{none, places(at(0, 2), at(0, 2)), list(40, 20), 0, list(20, 20, 0)},

		// One after the other: heights that were enlarged are the weights of the next cell.
		{list(1, 3, -1, -1), places(at(0, 2), at(0, 3), at(0, 4)), list(8, 16, 32), 0, list(8, 24, 0, 0)},
		{list(1, 3, -1, 4), places(at(0, 2), at(0, 3), at(0, 4)), list(8, 16, 40), 0, list(8, 24, 0, 8)},
		{list(1, 3, -1, 4), places(at(0, 2), at(0, 3), at(0, 4)), list(9, 18, 43), 1, list(8, 24, 0, 8)},

		// Cells of other rows, and those that have what they need, change nothing.
		{list(10, 10, 10), places(at(0, 2), at(1, 2), at(0, 3)), list(20, 19, 30), 0, list(10, 10, 10)},
		{list(10, 10, 10), places(at(0, 2), at(1, 2), at(0, 3)), list(0, 0, 0), 0, list(10, 10, 10)},
		{list(10, 10, 10), places(at(0, 2), at(1, 2), at(0, 3)), list(25, 24, 40), 5, list(10, 10, 10)},
		{list(-1, -1, -1, -1), places(at(0, 2), at(2, 2)), list(5, 7), 0, list(3, 2, 4, 3)},

		{nil, nil, nil, 0, nil},
		{list(), places(), list(), px, nil},
		{none, nil, nil, 5, list(0, 0, 0)},
		{list(0, -1, 5, px), nil, nil, px, list(0, 0, 5, px)},
		{none, places(at(0, 1), at(1, 1), at(2, 1), at(0, 3)), list(high, high, high, high), 0, list(high, high, high)},
		{none, places(at(1, 1), at(0, 3)), list(high, high), 0, list(0, high, 0)},
		{none, places(at(1, 1), at(0, 3)), list(1, high), 0, list(0, high, 0)},
		{none, places(at(1, 1), at(0, 3)), list(1, high), px, list(0, high-2*px, 0)},
	} {
		wantLeast(t, c.wants, c.l, c.highs, c.gap, c.want)
		wantLeast(t, c.wants, c.l, c.highs, c.gap, leastByWords(c.wants, c.l, c.highs, c.gap))
	}
}

// P16.3: each row is as high as it requests, and as each cell of it alone; the rows of a cell and the gaps between them are as high as the cell.
func holdLeast(t *testing.T, wants []int64, l []api.Place, highs []int64, gap int64) {
	t.Helper()
	rows, err := heights.Least(wants, l, highs, gap)
	if err != api.OK || len(rows) != len(wants) {
		t.Fatalf("Least(%d, %v, %d, %d) = %d, error %d", few(wants), few(l), few(highs), gap, few(rows), err)
	}
	for row, want := range wants {
		if rows[row] < max(0, want) {
			t.Errorf("Least(%d, %v, %d, %d): row %d is %d", few(wants), few(l), few(highs), gap, row, rows[row])
		}
	}
	for i, p := range l {
		reach := bigSum(rows[p.Row : p.Row+p.Rows]...)
		reach.Add(reach, big.NewInt(gap*int64(p.Rows-1)))
		if reach.Cmp(big.NewInt(highs[i])) < 0 {
			t.Errorf("Least(%d, %v, %d, %d) = %d: the rows of cell %d are %d", few(wants), few(l), few(highs), gap, few(rows), i, reach)
		}
	}
}

// P16.1, P16.3: random rows and cells, against the chapter's words in numbers without bounds.
func TestLeastRandom(t *testing.T) {
	var n numbers = 162
	changed := 0
	for range 20000 {
		rows, many := 1+n.below(7), n.below(8)
		wants, l, highs, gap := n.wants(rows), n.places(rows, many), n.heights(many), n.gap()
		want := leastByWords(wants, l, highs, gap)
		wantLeast(t, wants, l, highs, gap, want)
		holdLeast(t, wants, l, highs, gap)
		if t.Failed() {
			return
		}
		wider := slices.ContainsFunc(l, func(p api.Place) bool { return p.Rows > 1 })
		if wider && !slices.Equal(want, leastByWords(wants, nil, nil, gap)) {
			changed++
		}
	}
	if changed < 5000 {
		t.Errorf("only %d of 20000 had rows that cells of several rows changed", changed)
	}
}

// P16.1, P16.3: as many rows and as many cells as there may be.
func TestLeastMany(t *testing.T) {
	var n numbers = 163
	wants, l, highs := n.wants(10000), n.places(10000, 60), n.heights(60)
	for _, gap := range list(0, 1, px) {
		wantLeast(t, wants, l, highs, gap, leastByWords(wants, l, highs, gap))
		holdLeast(t, wants, l, highs, gap)
	}
	all := places(at(0, 10000))
	wantLeast(t, alike(10000, -1), all, list(25000), 0, slices.Concat(alike(5000, 3), alike(5000, 2)))
	wantLeast(t, alike(10000, -1), all, list(25000+9999), 1, slices.Concat(alike(5000, 3), alike(5000, 2)))
	wantLeast(t, alike(10000, px), all, list(10000*px), 0, alike(10000, px))
	wantLeast(t, alike(10000, px), all, list(high), 0, slices.Concat(alike(2623, 112589990685), alike(7377, 112589990684)))
	wantLeast(t, alike(10000, 1), all, list(high), px, slices.Concat(alike(4447, 111516356235), alike(5553, 111516356234)))
	var single []api.Place
	for row := range 1000 {
		single = append(single, at(10*row, 1))
	}
	tall := make([]int64, 10000)
	for row := range single {
		tall[10*row] = high
	}
	wantLeast(t, alike(10000, -1), single, alike(1000, high), px, tall)
	wantLeast(t, alike(10000, -1), append(single[:999:999], at(0, 10000)), alike(1000, high), 0, append(tall[:9990:9990], alike(10, 0)...))

	wants, l, highs = n.wants(40), n.places(40, 1000), n.heights(1000)
	wantLeast(t, wants, l, highs, 3, leastByWords(wants, l, highs, 3))
	holdLeast(t, wants, l, highs, 3)
}
