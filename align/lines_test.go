package align_test

import (
	"slices"
	"testing"

	"purfling/align"
	"purfling/api"
)

func wantLines(t *testing.T, rows int, l []api.Cell, want []int64) {
	t.Helper()
	if got, err := align.Lines(rows, l); err != api.OK || !slices.Equal(got, want) {
		t.Errorf("Lines(%d, %v) = %d, error %d, want %d", rows, few(l), few(got), err, few(want))
	}
}

func wantNeeds(t *testing.T, rows int, l []api.Cell, want []int64) {
	t.Helper()
	if got, err := align.Needs(rows, l); err != api.OK || !slices.Equal(got, want) {
		t.Errorf("Needs(%d, %v) = %d, error %d, want %d", rows, few(l), few(got), err, few(want))
	}
}

// P17.1: written out; the first one is the chapter's example.
func TestLinesAndNeeds(t *testing.T) {
	for _, c := range []struct {
		rows  int
		l     []api.Cell
		lines []int64
		needs []int64
	}{
		{1, cells(based(at(0, 1), 5, 10, 0), based(at(0, 1), 8, 9, 0)), list(8), list(13, 9)},

		// The deepest base counts, wherever it stands.
		{1, cells(based(at(0, 1), 8, 9, 0), based(at(0, 1), 5, 10, 0)), list(8), list(9, 13)},
		{1, cells(based(at(0, 1), 1, 9, 0), based(at(0, 1), 2, 9, 0), based(at(0, 1), 3, 9, 0)), list(3), list(11, 10, 9)},
		{1, cells(based(at(0, 1), 3, 9, 0), based(at(0, 1), 2, 9, 0), based(at(0, 1), 1, 9, 0)), list(3), list(9, 10, 11)},
		{1, cells(based(at(0, 1), 2, 9, 0), based(at(0, 1), 3, 9, 0), based(at(0, 1), 1, 9, 0)), list(3), list(10, 9, 11)},
		{1, cells(based(at(0, 1), 2, 9, 0), based(at(0, 1), 1, 9, 0), based(at(0, 1), 3, 9, 0)), list(3), list(10, 11, 9)},
		{1, cells(based(at(0, 1), 3, 9, 0), based(at(0, 1), 3, 8, 0)), list(3), list(9, 8)},
		{1, cells(based(at(0, 1), 0, 9, 0), based(at(0, 1), 0, 8, 0)), list(0), list(9, 8)},
		{1, cells(based(at(0, 1), 0, 9, 0), based(at(0, 1), 1, 0, 0)), list(1), list(10, 0)},
		{1, cells(based(at(0, 1), 7, 9, 0)), list(7), list(9)},

		// A baseline below its content.
		{1, cells(based(at(0, 1), 20, 4, 0), based(at(0, 1), 5, 10, 0)), list(20), list(4, 25)},

		// Only boxes with a baseline, and only AlignBase.
		{1, cells(based(at(0, 1), 9, 4, 1), based(at(0, 1), 5, 10, 0)), list(5), list(4, 10)},
		{1, cells(based(at(0, 1), 9, 4, 2), based(at(0, 1), 5, 10, 0)), list(5), list(4, 10)},
		{1, cells(based(at(0, 1), 9, 4, 3), based(at(0, 1), 5, 10, 0)), list(5), list(4, 10)},
		{1, cells(based(at(0, 1), 1, 4, 3), based(at(0, 1), 5, 10, 0)), list(5), list(4, 10)},
		{1, cells(bare(at(0, 1), 4, 0), based(at(0, 1), 5, 10, 0)), list(5), list(4, 10)},
		{1, cells(api.Cell{Place: at(0, 1), Box: api.Box{High: 4, Base: 9}}, based(at(0, 1), 5, 10, 0)), list(5), list(4, 10)},
		{1, cells(based(at(0, 1), 9, 4, 1), based(at(0, 1), 8, 5, 2), based(at(0, 1), 7, 6, 3), bare(at(0, 1), 7, 0)), list(0), list(4, 5, 6, 7)},

		// A cell of several rows counts in its first one alone.
		{3, cells(based(at(0, 3), 8, 9, 0), based(at(0, 1), 5, 10, 0), based(at(1, 1), 5, 10, 0), based(at(2, 1), 5, 10, 0)), list(8, 5, 5), list(9, 13, 10, 10)},
		{3, cells(based(at(0, 1), 1, 2, 0), based(at(1, 2), 8, 9, 0), based(at(1, 1), 6, 9, 0), based(at(2, 1), 2, 2, 0)), list(1, 8, 2), list(2, 9, 11, 2)},
		{2, cells(based(at(0, 2), 8, 9, 0)), list(8, 0), list(9)},

		// Each row by itself, in whatever order the cells are.
		{3, cells(based(at(2, 1), 4, 9, 0), based(at(0, 1), 2, 9, 0), based(at(2, 1), 1, 9, 0), based(at(0, 1), 6, 9, 0)), list(6, 0, 4), list(9, 13, 12, 9)},

		{0, nil, nil, nil},
		{0, cells(), list(), list()},
		{3, nil, list(0, 0, 0), nil},
		{1, cells(based(at(0, 1), high, high, 0), based(at(0, 1), 0, high, 0)), list(high), list(high, 2*high)},
		{1, cells(based(at(0, 1), high, 0, 0), based(at(0, 1), high-1, 0, 0), bare(at(0, 1), high, 3)), list(high), list(0, 1, high)},
	} {
		wantLines(t, c.rows, c.l, c.lines)
		wantNeeds(t, c.rows, c.l, c.needs)
		wantLines(t, c.rows, c.l, linesByWords(c.rows, c.l))
		wantNeeds(t, c.rows, c.l, needsByWords(c.rows, c.l))
	}
}

// P17.1: cells that are not aligned by their baselines change nothing for others, whatever their Base.
func TestOthersHaveNoBaseline(t *testing.T) {
	for _, base := range list(0, 1, 4, 5, 6, 100, high) {
		for how := range 4 {
			for _, has := range []bool{false, true} {
				if how == api.AlignBase && has {
					continue
				}
				c := based(at(0, 1), base, 7, how)
				c.Box.HasBase = has
				wantLines(t, 2, cells(c), list(0, 0))
				wantNeeds(t, 2, cells(c), list(7))
				for i := range 3 {
					l := slices.Insert(cells(based(at(0, 2), 5, 10, 0), based(at(0, 1), 2, 10, 0)), i, c)
					wantLines(t, 2, l, list(5, 0))
					wantNeeds(t, 2, l, slices.Insert(list(10, 13), i, 7))
				}
			}
		}
	}
}

// P17.1: random cells, against the chapter's words.
func TestLinesAndNeedsRandom(t *testing.T) {
	var n numbers = 173
	raised := 0
	for range 20000 {
		rows := 1 + n.below(6)
		l := n.cells(rows, n.below(10))
		needs := needsByWords(rows, l)
		wantLines(t, rows, l, linesByWords(rows, l))
		wantNeeds(t, rows, l, needs)
		if t.Failed() {
			return
		}
		for i, c := range l {
			if needs[i] > c.Box.High {
				raised++
			}
		}
	}
	if raised < 10000 {
		t.Errorf("only %d contents were to be moved down", raised)
	}
}

// P17.1: as many rows as there may be, and more cells.
func TestLinesAndNeedsMany(t *testing.T) {
	var n numbers = 174
	l := n.cells(10000, 65537)
	wantLines(t, 10000, l, linesByWords(10000, l))
	wantNeeds(t, 10000, l, needsByWords(10000, l))

	l = nil
	for i := range 65537 {
		l = append(l, based(at(9999, 1), int64(i), 1, 0))
	}
	lines, needs := append(alike(9999, 0), 65536), alike(65537, 0)
	for i := range needs {
		needs[i] = int64(65537 - i)
	}
	wantLines(t, 10000, l, lines)
	wantNeeds(t, 10000, l, needs)
	slices.Reverse(l)
	slices.Reverse(needs)
	wantLines(t, 10000, l, lines)
	wantNeeds(t, 10000, l, needs)
}
