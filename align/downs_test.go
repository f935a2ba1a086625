package align_test

import (
	"slices"
	"testing"

	"purfling/align"
	"purfling/api"
)

func wantDowns(t *testing.T, rows []int64, gap int64, l []api.Cell, want []int64) {
	t.Helper()
	if got, err := align.Downs(rows, gap, l); err != api.OK || !slices.Equal(got, want) {
		t.Errorf("Downs(%d, %d, %v) = %d, error %d, want %d", few(rows), gap, few(l), few(got), err, few(want))
	}
}

func holdDowns(t *testing.T, name string, rows []int64, gap int64, l []api.Cell, right bool) {
	t.Helper()
	got, err := align.Downs(rows, gap, l)
	if right && err == api.OK && len(got) == len(l) || !right && err == api.ErrAlign && got == nil {
		return
	}
	t.Errorf("%s: Downs(%d, %d, %v) = %d, error %d", name, few(rows), gap, few(l), few(got), err)
}

// P17.2: one cell, written out.
func TestDownsOne(t *testing.T) {
	for _, c := range []struct {
		rows []int64
		gap  int64
		c    api.Cell
		want int64
	}{
		// Half is rounded down.
		{list(20), 0, bare(at(0, 1), 20, 2), 0},
		{list(20), 0, bare(at(0, 1), 19, 2), 0},
		{list(20), 0, bare(at(0, 1), 18, 2), 1},
		{list(20), 0, bare(at(0, 1), 17, 2), 1},
		{list(20), 0, bare(at(0, 1), 0, 2), 10},
		{list(21), 0, bare(at(0, 1), 0, 2), 10},
		{list(20), 0, bare(at(0, 1), 20, 3), 0},
		{list(20), 0, bare(at(0, 1), 19, 3), 1},
		{list(20), 0, bare(at(0, 1), 0, 3), 20},

		// Contents that are higher than their rows stay.
		{list(20), 0, bare(at(0, 1), 21, 2), 0},
		{list(20), 0, bare(at(0, 1), 22, 2), 0},
		{list(20), 0, bare(at(0, 1), high, 2), 0},
		{list(20), 0, bare(at(0, 1), 21, 3), 0},
		{list(20), 0, bare(at(0, 1), high, 3), 0},
		{list(0), 0, bare(at(0, 1), 1, 3), 0},
		{list(0), 0, bare(at(0, 1), 0, 3), 0},

		// The gap counts between a cell's rows, not before or behind them.
		{list(20, 30, 40), 5, bare(at(0, 1), 6, 3), 14},
		{list(20, 30, 40), 5, bare(at(1, 1), 6, 3), 24},
		{list(20, 30, 40), 5, bare(at(2, 1), 6, 3), 34},
		{list(20, 30, 40), 5, bare(at(0, 2), 6, 3), 49},
		{list(20, 30, 40), 5, bare(at(1, 2), 6, 3), 69},
		{list(20, 30, 40), 5, bare(at(0, 3), 6, 3), 94},
		{list(20, 30, 40), 5, bare(at(0, 1), 6, 2), 7},
		{list(20, 30, 40), 5, bare(at(0, 2), 6, 2), 24},
		{list(20, 30, 40), 5, bare(at(1, 2), 6, 2), 34},
		{list(20, 30, 40), 5, bare(at(0, 3), 6, 2), 47},
		{list(20, 30, 40), 0, bare(at(0, 3), 6, 3), 84},
		{list(0, 0, 0), 5, bare(at(0, 3), 6, 3), 4},
		{list(0, 0, 0), 5, bare(at(0, 3), 11, 3), 0},
		{list(px, px), px, bare(at(0, 2), 1, 3), 3*px - 1},
		{list(px, px), px, bare(at(0, 2), 1, 2), (3*px - 1) / 2},
		{list(px, px), px, bare(at(1, 1), 1, 3), px - 1},

		// A Base is nothing to contents that are aligned otherwise.
		{list(20), 0, based(at(0, 1), 4, 6, 1), 0},
		{list(20), 0, based(at(0, 1), 4, 6, 2), 7},
		{list(20), 0, based(at(0, 1), 4, 6, 3), 14},

		// Alone, and at the top.
		{list(20), 0, based(at(0, 1), 4, 6, 0), 0},
		{list(20, 30), 5, based(at(0, 2), 4, 6, 0), 0},
		{list(20), 0, bare(at(0, 1), 6, 0), 0},
		{list(20, 30), 5, bare(at(0, 2), 6, 0), 0},
		{list(20), 0, bare(at(0, 1), 6, 1), 0},
		{list(20, 30), 5, bare(at(0, 2), 6, 1), 0},
		{list(20), 0, bare(at(0, 1), 60, 1), 0},
	} {
		wantDowns(t, c.rows, c.gap, cells(c.c), list(c.want))
		wantDowns(t, c.rows, c.gap, cells(c.c), downsByWords(c.rows, c.gap, cells(c.c)))
	}
}

// P17.2: several cells, written out; the first one is the chapter's example.
func TestDownsSeveral(t *testing.T) {
	for _, c := range []struct {
		rows []int64
		gap  int64
		l    []api.Cell
		want []int64
	}{
		{list(13), 0, cells(based(at(0, 1), 5, 10, 0), based(at(0, 1), 8, 9, 0)), list(3, 0)},

		// Baselines do not depend on how high the rows are.
		{list(0), 0, cells(based(at(0, 1), 5, 10, 0), based(at(0, 1), 8, 9, 0)), list(3, 0)},
		{list(1000), 7, cells(based(at(0, 1), 5, 10, 0), based(at(0, 1), 8, 9, 0)), list(3, 0)},
		{list(0), 0, cells(based(at(0, 1), 0, high, 0), based(at(0, 1), high, 0, 0)), list(high, 0)},

		// One of each way, in one row.
		{list(20), 0, cells(based(at(0, 1), 5, 10, 0), based(at(0, 1), 8, 9, 0), based(at(0, 1), 1, 7, 1), based(at(0, 1), 1, 7, 2), based(at(0, 1), 1, 7, 3), bare(at(0, 1), 7, 0)), list(3, 0, 0, 6, 13, 0)},

		// A cell of several rows has the baseline of its first one.
		{list(20, 20), 1, cells(based(at(0, 2), 5, 10, 0), based(at(0, 1), 8, 9, 0), based(at(1, 1), 6, 7, 0), based(at(1, 1), 1, 1, 0)), list(3, 0, 0, 5)},
		{list(20, 20), 1, cells(based(at(0, 2), 8, 10, 0), based(at(0, 1), 5, 9, 0), based(at(1, 1), 6, 7, 0), based(at(1, 1), 1, 1, 0)), list(0, 3, 0, 5)},

		// Each cell has its own rows.
		{list(20, 30, 40), 5, cells(bare(at(2, 1), 10, 3), bare(at(0, 2), 10, 2), bare(at(1, 1), 10, 3), bare(at(0, 3), 10, 3), bare(at(0, 1), 10, 2)), list(30, 22, 20, 90, 5)},

		{nil, 0, nil, nil},
		{list(), px, cells(), nil},
		{list(5, 6), 1, nil, nil},
	} {
		wantDowns(t, c.rows, c.gap, c.l, c.want)
		wantDowns(t, c.rows, c.gap, c.l, downsByWords(c.rows, c.gap, c.l))
	}
}

// P17.2: rows and the gap are in 0..MaxPx, wherever they stand.
func TestDownsBounds(t *testing.T) {
	isBand := func(n int64) bool { return n >= 0 && n <= px }
	for _, n := range ofLengths() {
		holdDowns(t, "a row alone", list(n), 0, nil, isBand(n))
		holdDowns(t, "a gap alone", nil, n, nil, isBand(n))
		for how := range 4 {
			l := cells(based(at(0, 1), 3, 5, how), bare(at(1, 2), 5, how))
			holdDowns(t, "a gap", list(7, 8, 9), n, l, isBand(n))
			holdDowns(t, "a gap, and one row", list(7), n, l[:1], isBand(n))
			for i := range 3 {
				rows := list(7, 8, 9)
				rows[i] = n
				holdDowns(t, "a row", rows, 1, l, isBand(n))
				holdDowns(t, "a row and no cells", rows, 1, nil, isBand(n))
				holdDowns(t, "a row and a wrong cell", rows, 1, cells(based(at(0, 4), 3, 5, how)), false)
				for _, m := range ofLengths() {
					rows[(i+1)%3] = m
					holdDowns(t, "two rows", rows, 1, l[:1], isBand(n) && isBand(m))
					holdDowns(t, "a row and a gap", list(1, n), m, l[:1], isBand(n) && isBand(m))
				}
			}
		}
	}
}

// P17.2: there are at most 10000 rows.
func TestDownsRows(t *testing.T) {
	for _, many := range []int{0, 1, 2, 9999, 10000, 10001, 10002, 20000, 65537} {
		right := many <= 10000
		for _, n := range list(0, 7, px) {
			holdDowns(t, "rows", alike(many, n), n, nil, right)
			for how := range 4 {
				holdDowns(t, "rows and a cell of all", alike(many, n), n, cells(based(at(0, many), 3, 5, how)), right && many > 0)
				holdDowns(t, "rows and the last cell", alike(many, n), n, cells(based(at(many-1, 1), 3, 5, how)), right && many > 0)
				holdDowns(t, "rows and a cell behind them", alike(many, n), n, cells(based(at(many, 1), 3, 5, how)), false)
			}
		}
	}
	rows := alike(10000, 3)
	for _, i := range []int{0, 1, 5000, 9998, 9999} {
		for _, n := range list(-1, px+1) {
			rows[i] = n
			holdDowns(t, "a wrong row of many", rows, 0, cells(bare(at(2, 1), 1, 3)), false)
		}
		rows[i] = 3
	}
}

// P17.2: random rows and cells, against the chapter's words.
func TestDownsRandom(t *testing.T) {
	var n numbers = 175
	var moved [4]int
	for range 20000 {
		rows, gap := n.bands(1+n.below(6)), n.gap()
		l := n.cells(len(rows), n.below(10))
		want := downsByWords(rows, gap, l)
		wantDowns(t, rows, gap, l, want)
		if t.Failed() {
			return
		}
		for i, c := range l {
			if want[i] > 0 {
				moved[c.Align]++
			}
		}
	}
	if moved[0] < 8000 || moved[1] > 0 || moved[2] < 8000 || moved[3] < 8000 {
		t.Errorf("only %d contents were moved", moved)
	}
}

// P17.2: as many rows as there may be, and more cells.
func TestDownsMany(t *testing.T) {
	var n numbers = 176
	rows := n.bands(10000)
	for _, gap := range list(0, 1, px) {
		l := n.cells(10000, 1000)
		wantDowns(t, rows, gap, l, downsByWords(rows, gap, l))
	}
	all := at(0, 10000)
	wantDowns(t, alike(10000, px), px, cells(bare(all, 0, 3), bare(all, 0, 2), bare(all, 1, 2), bare(all, high, 3)), list(19999*px, 19999*px/2, 19999*px/2-1, 0))
	wantDowns(t, alike(10000, 0), 0, cells(bare(all, 0, 3), based(all, 2, 5, 0), based(all, 7, 5, 0)), list(0, 5, 0))

	var l []api.Cell
	for i := range 65537 {
		l = append(l, bare(at(i%10000, 1), int64(i%70), 1+i%3))
	}
	wantDowns(t, rows, 3, l, downsByWords(rows, 3, l))
}

// fit makes each cell's rows as high as the cell requires, by one of them.
func (n *numbers) fit(gap int64, needs []int64, l []api.Cell, rows ...int64) {
	for i, c := range l {
		lack := needs[i] - heightByWords(rows, gap, c.Place)
		rows[c.Place.Row+n.below(c.Place.Rows)] += max(0, lack)
	}
}

// P17.3: baselines of a row are at one position; in rows that are as high as their cells require, all contents end within them.
func TestProperties(t *testing.T) {
	var n numbers = 177
	common, within := 0, 0
	for range 20000 {
		rows, gap := alike(1+n.below(6), 0), n.of(0, 0, 1, int64(n.below(30)))
		l := n.cells(len(rows), n.below(10))
		for i := range l {
			l[i].Box.High, l[i].Box.Base = int64(n.below(300)), int64(n.below(100))
		}
		lines, _ := align.Lines(len(rows), l)
		needs, _ := align.Needs(len(rows), l)
		n.fit(gap, needs, l, rows...)
		downs, err := align.Downs(rows, gap, l)
		if err != api.OK || len(downs) != len(l) || len(lines) != len(rows) {
			t.Fatalf("Downs(%d, %d, %v) = %d, error %d", rows, gap, l, downs, err)
		}
		for i, c := range l {
			if c.Align == api.AlignBase && c.Box.HasBase {
				common++
				if downs[i]+c.Box.Base != lines[c.Place.Row] {
					t.Fatalf("Downs(%d, %d, %v) = %d: the baseline of cell %d is not at %d", rows, gap, l, downs, i, lines[c.Place.Row])
				}
			}
			within++
			if downs[i] < 0 || downs[i]+c.Box.High > heightByWords(rows, gap, c.Place) {
				t.Fatalf("Downs(%d, %d, %v) = %d: the content of cell %d is beyond its rows", rows, gap, l, downs, i)
			}
		}
	}
	if common < 20000 || within < 60000 {
		t.Errorf("only %d contents had a baseline, of %d", common, within)
	}
}
