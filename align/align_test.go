package align_test

import (
	"math"
	"slices"
	"testing"

	"purfling/align"
	"purfling/api"
)

const (
	px   = 1073741824
	high = 1125899906842623
)

// at has a first row, and how many rows there are.
func at(row int, rows int) api.Place { return api.Place{Row: row, Rows: rows, Cols: 1} }

// based has a content with a baseline, bare one without.
func based(p api.Place, base int64, h int64, how int) api.Cell {
	return api.Cell{Place: p, Box: api.Box{High: h, Base: base, HasBase: true}, Align: how}
}

func bare(p api.Place, h int64, how int) api.Cell {
	return api.Cell{Place: p, Box: api.Box{High: h}, Align: how}
}

func cells(l ...api.Cell) []api.Cell { return l }

func list(l ...int64) []int64 { return l }

// alike has a number so many times.
func alike(many int, n int64) []int64 { return slices.Repeat(list(n), many) }

// few cuts what is too long to be told.
func few[T any](l []T) []T { return l[:min(len(l), 12)] }

// numbers answers the same numbers below a bound on every run, so that a test that fails fails again.
type numbers uint64

func (n *numbers) below(bound int) int {
	*n = *n*6364136223846793005 + 1442695040888963407
	return int(uint64(*n)>>33) % bound
}

func (n *numbers) of(l ...int64) int64 { return l[n.below(len(l))] }

// length is mostly small, so that contents and their rows come close to each other.
func (n *numbers) length() int64 {
	if n.below(16) == 0 {
		return n.of(px, high/2, high-1, high)
	}
	return n.of(0, 1, int64(n.below(10)), int64(n.below(100)), int64(n.below(100)))
}

// cell lies within so many rows; half of all are aligned by their baselines.
func (n *numbers) cell(rows int) api.Cell {
	row := n.below(rows)
	c := based(at(row, 1+n.below(rows-row)), n.length(), n.length(), n.below(4))
	if n.below(3) == 0 {
		c.Align = api.AlignBase
	}
	c.Box.HasBase = n.below(6) > 0
	return c
}

func (n *numbers) cells(rows int, many int) []api.Cell {
	l := make([]api.Cell, many)
	for i := range l {
		l[i] = n.cell(rows)
	}
	return l
}

// bands are valid.
func (n *numbers) bands(many int) []int64 {
	l := make([]int64, many)
	for i := range l {
		l[i] = n.of(0, 1, int64(n.below(20)), int64(n.below(100)), int64(n.below(200)))
		if n.below(30) == 0 {
			l[i] = n.of(px-1, px)
		}
	}
	return l
}

func (n *numbers) gap() int64 { return n.of(0, 0, 1, 2, int64(n.below(30)), px) }

// linesByWords, needsByWords and downsByWords go through the words of the chapter one by one.
func linesByWords(rows int, l []api.Cell) []int64 {
	lines := make([]int64, rows)
	for _, c := range l {
		if c.Align == 0 && c.Box.HasBase {
			lines[c.Place.Row] = max(lines[c.Place.Row], c.Box.Base)
		}
	}
	return lines
}

func needsByWords(rows int, l []api.Cell) []int64 {
	lines := linesByWords(rows, l)
	var needs []int64
	for _, c := range l {
		need := c.Box.High
		if c.Align == 0 && c.Box.HasBase {
			need = lines[c.Place.Row] - c.Box.Base + c.Box.High
		}
		needs = append(needs, need)
	}
	return needs
}

func heightByWords(rows []int64, gap int64, p api.Place) int64 {
	sum := gap * int64(p.Rows-1)
	for _, row := range rows[p.Row : p.Row+p.Rows] {
		sum += row
	}
	return sum
}

func downsByWords(rows []int64, gap int64, l []api.Cell) []int64 {
	lines := linesByWords(len(rows), l)
	var downs []int64
	for _, c := range l {
		var down int64
		excess := max(0, heightByWords(rows, gap, c.Place)-c.Box.High)
		switch {
		case c.Align == 0 && c.Box.HasBase:
			down = lines[c.Place.Row] - c.Box.Base
		case c.Align == 2:
			down = excess / 2
		case c.Align == 3:
			down = excess
		}
		downs = append(downs, down)
	}
	return downs
}

// agree holds what a call about cells has answered to whether they are right.
func agree(t *testing.T, name string, what string, rows int, l []api.Cell, right bool, got []int64, many int, err api.Errno) {
	t.Helper()
	if right && err == api.OK && len(got) == many || !right && err == api.ErrAlign && got == nil {
		return
	}
	t.Errorf("%s: %s(%d, %v) = %d, error %d", name, what, rows, few(l), few(got), err)
}

// hold asks Right, and all others, which must agree with it.
func hold(t *testing.T, name string, rows int, l []api.Cell, right bool) {
	t.Helper()
	if got := align.Right(rows, l); got != right {
		t.Errorf("%s: Right(%d, %v) = %t", name, rows, few(l), got)
	}
	got, err := align.Lines(rows, l)
	agree(t, name, "Lines", rows, l, right, got, rows, err)
	got, err = align.Needs(rows, l)
	agree(t, name, "Needs", rows, l, right, got, len(l), err)
	if rows >= 0 && rows < 100000 {
		got, err = align.Downs(alike(rows, 9), 1, l)
		agree(t, name, "Downs", rows, l, right, got, len(l), err)
	}
}

// P17.1, P17.2: what is right, and what is wrong, written out.
func TestRight(t *testing.T) {
	for _, c := range []struct {
		rows int
		l    []api.Cell
	}{
		{1, cells(based(at(0, 1), 5, 10, api.AlignBase), based(at(0, 1), 8, 9, api.AlignBase))},
		{0, nil},
		{0, cells()},
		{1, nil},
		{10000, nil},
		{1, cells(bare(at(0, 1), 0, api.AlignBase))},
		{3, cells(based(at(0, 3), high, high, api.AlignBase), based(at(1, 2), 0, high, api.AlignTop), bare(at(2, 1), high, api.AlignMiddle), based(at(0, 1), high, 0, api.AlignBottom))},
		// A baseline may be below its content, and cells may be in one another, for no one asks for that.
		{2, cells(based(at(0, 2), 9, 4, api.AlignBase), based(at(0, 2), 9, 4, api.AlignBase), based(at(1, 1), 9, 4, api.AlignBase))},
	} {
		hold(t, "right", c.rows, c.l, true)
	}
	for _, c := range []struct {
		rows int
		l    []api.Cell
	}{
		{-1, nil},
		{10001, nil},
		{0, cells(bare(at(0, 1), 5, api.AlignTop))},
		{0, cells(bare(at(0, 0), 5, api.AlignTop))},
		{2, cells(bare(at(2, 1), 5, api.AlignTop))},
		{2, cells(bare(at(0, 3), 5, api.AlignTop))},
		{2, cells(bare(at(1, 2), 5, api.AlignTop))},
		{2, cells(bare(at(-1, 1), 5, api.AlignTop))},
		{2, cells(bare(at(-1, 2), 5, api.AlignTop))},
		{2, cells(bare(at(0, 0), 5, api.AlignTop))},
		{2, cells(bare(at(2, 0), 5, api.AlignTop))},
		{2, cells(bare(at(2, -1), 5, api.AlignTop))},
		{2, cells(api.Cell{})},
		{2, cells(bare(at(0, 1), -1, api.AlignTop))},
		{2, cells(bare(at(0, 1), high+1, api.AlignTop))},
		{2, cells(based(at(0, 1), -1, 5, api.AlignBase))},
		{2, cells(based(at(0, 1), high+1, 5, api.AlignBase))},
		{2, cells(bare(at(0, 1), 5, -1))},
		{2, cells(bare(at(0, 1), 5, 4))},
	} {
		hold(t, "wrong", c.rows, c.l, false)
	}
}

// P17.1: the number of rows is in 0..10000.
func TestRightRows(t *testing.T) {
	for _, rows := range []int{math.MinInt, math.MinInt + 1, -10001, -10000, -2, -1, 0, 1, 2, 9998, 9999, 10000, 10001, 10002, 20000, 65536, 65537, math.MaxInt - 1, math.MaxInt} {
		right := rows >= 0 && rows <= 10000
		hold(t, "rows", rows, nil, right)
		for how := range 4 {
			hold(t, "rows and the first cell", rows, cells(based(at(0, 1), 3, 5, how)), right && rows > 0)
			hold(t, "rows and a cell of all", rows, cells(based(at(0, rows), 3, 5, how)), right && rows > 0)
			hold(t, "rows and the last cell", rows, cells(based(at(rows-1, 1), 3, 5, how)), right && rows > 0)
			hold(t, "rows and a cell behind them", rows, cells(based(at(rows, 1), 3, 5, how)), false)
			hold(t, "rows and a cell that is longer", rows, cells(based(at(0, rows+1), 3, 5, how)), false)
			hold(t, "rows and a cell without any", rows, cells(based(at(0, 0), 3, 5, how)), false)
		}
	}
}

// P17.1: every place has at least one row, and lies within the rows; the sum of its numbers may be beyond what an int holds.
func TestRightPlaces(t *testing.T) {
	l := []int{math.MinInt, math.MinInt + 1, -10000, -3, -2, -1, 0, 1, 2, 3, 4, 5, 9999, 10000, 10001, math.MaxInt - 4, math.MaxInt - 1, math.MaxInt}
	inside := cells(based(at(0, 1), 1, 2, api.AlignBase), bare(at(0, 3), 7, api.AlignBottom), based(at(1, 1), 9, 3, api.AlignMiddle))
	for rows := range 5 {
		for _, row := range l {
			for _, n := range l {
				right := row >= 0 && row < rows && n >= 1 && n <= rows && row+n <= rows
				for how := range 4 {
					c := based(at(row, n), 3, 5, how)
					hold(t, "a place", rows, cells(c), right)
					if rows < 3 {
						continue
					}
					for i := range 4 {
						hold(t, "a place among others", rows, slices.Insert(slices.Clone(inside), i, c), right)
					}
				}
			}
		}
	}
}

// ofLengths are beyond the bounds of lengths, at them, and within.
func ofLengths() []int64 {
	return list(math.MinInt64, math.MinInt64+1, -high-1, -high, -px, -3, -2, -1, 0, 1, 2, px-1, px, px+1, 1<<32, high-1, high, high+1, high+2, 1<<60, math.MaxInt64-1, math.MaxInt64)
}

// P17.1: High and Base have their bounds, wherever they stand, however the cell is aligned, and whether or not the box has a baseline.
func TestRightLengths(t *testing.T) {
	isLength := func(n int64) bool { return n >= 0 && n <= high }
	inside := cells(based(at(0, 1), 1, 2, api.AlignBase), bare(at(0, 3), 7, api.AlignBottom), based(at(1, 1), 9, 3, api.AlignMiddle))
	for _, base := range ofLengths() {
		for _, h := range ofLengths() {
			right := isLength(base) && isLength(h)
			for how := range 4 {
				c := based(at(1, 1), base, h, how)
				hold(t, "lengths with a baseline", 3, cells(c), right)
				c.Box.HasBase = false
				hold(t, "lengths without a baseline", 3, cells(c), right)
				for i := range 4 {
					hold(t, "lengths among others", 3, slices.Insert(slices.Clone(inside), i, c), right)
				}
			}
		}
	}
}

// P17.1: Align is in AlignBase..AlignBottom.
func TestRightAlign(t *testing.T) {
	inside := cells(based(at(0, 1), 1, 2, api.AlignBase), bare(at(0, 3), 7, api.AlignBottom), based(at(1, 1), 9, 3, api.AlignMiddle))
	for _, how := range []int{math.MinInt, -5, -4, -2, -1, 0, 1, 2, 3, 4, 5, 256, 1 << 32, math.MaxInt} {
		for _, c := range cells(based(at(1, 2), 3, 5, how), bare(at(1, 2), 5, how)) {
			hold(t, "a way", 3, cells(c), how >= 0 && how <= 3)
			for i := range 4 {
				hold(t, "a way among others", 3, slices.Insert(slices.Clone(inside), i, c), how >= 0 && how <= 3)
			}
		}
	}
}

// P17.1: there is no bound for the number of cells; a wrong one is found wherever it stands.
func TestRightMany(t *testing.T) {
	for _, many := range []int{1, 2, 999, 1000, 1001, 10000, 10001, 65536, 65537} {
		for how := range 4 {
			hold(t, "cells", 3, slices.Repeat(cells(based(at(1, 2), 3, 5, how)), many), true)
		}
		for _, i := range []int{0, many / 2, many - 1} {
			for _, wrong := range cells(based(at(1, 3), 3, 5, 0), based(at(1, 2), -1, 5, 0), based(at(1, 2), 3, high+1, 0), based(at(1, 2), 3, 5, 4)) {
				l := slices.Repeat(cells(based(at(1, 2), 3, 5, 0)), many)
				l[i] = wrong
				hold(t, "a wrong cell of many", 3, l, false)
			}
		}
	}
}

// P17.1, P17.2: the nodes of places, their columns, and the widths of boxes make no difference.
func TestOnlyRowsAndHeightsCount(t *testing.T) {
	for _, n := range []int{math.MinInt, -1, 0, 1, 10000, 65537, math.MaxInt} {
		for _, p := range []api.Place{{Node: n}, {Col: n}, {Cols: n}, {Node: n, Col: n, Cols: n}} {
			for _, b := range []api.Box{{}, {Min: int64(n)}, {Max: int64(n)}, {Min: int64(n), Max: int64(n)}} {
				p.Row, p.Rows, b.High, b.Base, b.HasBase = 1, 2, 9, 4, true
				l := cells(api.Cell{Place: p, Box: b}, based(at(1, 1), 6, 7, api.AlignBase), api.Cell{Place: p, Box: b, Align: api.AlignBottom})
				hold(t, "columns", 3, l, true)
				wantLines(t, 3, l, list(0, 6, 0))
				wantNeeds(t, 3, l, list(11, 7, 9))
				wantDowns(t, list(5, 5, 6), 1, l, list(2, 0, 3))
				l[0].Place.Rows = 3
				hold(t, "columns and too many rows", 3, l, false)
			}
		}
	}
}

// P17.1, P17.2: random cells, of which some are wrong in one number.
func TestRightRandom(t *testing.T) {
	var n numbers = 171
	for range 20000 {
		rows, many := 1+n.below(6), 1+n.below(6)
		l := n.cells(rows, many)
		hold(t, "random", rows, l, true)
		c := &l[n.below(many)]
		switch n.below(6) {
		case 0:
			c.Box.High = n.of(-1, high+1, math.MinInt64, math.MaxInt64)
		case 1:
			c.Box.Base = n.of(-1, high+1, math.MinInt64, math.MaxInt64)
		case 2:
			c.Align = int(n.of(-1, 4, math.MinInt64, math.MaxInt64))
		case 3:
			c.Place.Rows = int(n.of(0, -1, int64(rows-c.Place.Row+1), math.MinInt64, math.MaxInt64))
		case 4:
			c.Place.Row = int(n.of(-1, int64(rows), int64(rows-c.Place.Rows+1), math.MinInt64, math.MaxInt64))
		case 5:
			rows = c.Place.Row + c.Place.Rows - 1
		}
		hold(t, "random and wrong", rows, l, false)
		if t.Failed() {
			return
		}
	}
}

// P17.1, P17.2: what is given is not written to, in its spare capacity neither, and an answer shares memory with nothing.
func TestMemory(t *testing.T) {
	var n numbers = 172
	whole, wholeRows := n.cells(3, 9), list(20, 30, 40, -6, -5)
	whole[8] = based(at(-9, -9), -9, -9, -9)
	before, beforeRows := slices.Clone(whole), slices.Clone(wholeRows)
	for many := range 9 {
		l, rows := whole[:many], wholeRows[:3]
		for name, ask := range map[string]func() ([]int64, api.Errno){
			"Lines": func() ([]int64, api.Errno) { return align.Lines(3, l) },
			"Needs": func() ([]int64, api.Errno) { return align.Needs(3, l) },
			"Downs": func() ([]int64, api.Errno) { return align.Downs(rows, 2, l) },
		} {
			first, err := ask()
			want := slices.Clone(first)
			second, _ := ask()
			all := first[:cap(first)]
			for i := range all {
				all[i] = -99
			}
			if third, _ := ask(); err != api.OK || !slices.Equal(second, want) || !slices.Equal(third, want) {
				t.Errorf("%s of %d cells: %d, then %d, then %d", name, many, want, second, third)
			}
		}
		align.Right(3, l)
	}
	if !slices.Equal(whole, before) || !slices.Equal(wholeRows, beforeRows) {
		t.Error("what was given was written to")
	}
}
