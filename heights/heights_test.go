package heights_test

import (
	"math"
	"math/big"
	"slices"
	"testing"

	"purfling/api"
	"purfling/heights"
)

const (
	px    = 1073741824
	high  = 1125899906842623
	total = 576460752303423488
)

// at has a first row, and how many rows there are.
func at(row int, rows int) api.Place { return api.Place{Row: row, Rows: rows, Cols: 1} }

func places(l ...api.Place) []api.Place { return l }

func list(l ...int64) []int64 { return l }

// alike has a number so many times.
func alike(many int, n int64) []int64 { return slices.Repeat(list(n), many) }

// few cuts what is too long to be told.
func few[T any](l []T) []T { return l[:min(len(l), 12)] }

// numbers answers the same numbers below a bound on every run, so that a test that fails fails again.
type numbers uint64

func (n *numbers) below(bound int) int {
	*n = *n*6364136223846793005 + 1442695040888963407
	return int(uint64(*n)>>33) % bound
}

func (n *numbers) of(l ...int64) int64 { return l[n.below(len(l))] }

// height is mostly small, so that cells and their rows come close to each other.
func (n *numbers) height() int64 {
	if n.below(16) == 0 {
		return n.of(px, high/3, high/2, high-1, high)
	}
	return n.of(0, 1, int64(n.below(10)), int64(n.below(100)), int64(n.below(300)))
}

func (n *numbers) heights(many int) []int64 {
	l := make([]int64, many)
	for i := range l {
		l[i] = n.height()
	}
	return l
}

// wants are valid; a third of the rows has none.
func (n *numbers) wants(many int) []int64 {
	l := make([]int64, many)
	for i := range l {
		l[i] = n.of(-1, -1, 0, 1, int64(n.below(60)), int64(n.below(60)))
		if n.below(30) == 0 {
			l[i] = n.of(px-1, px)
		}
	}
	return l
}

// places lie within so many rows.
func (n *numbers) places(rows int, many int) []api.Place {
	l := make([]api.Place, many)
	for i := range l {
		row := n.below(rows)
		l[i] = at(row, 1+n.below(rows-row))
	}
	return l
}

func (n *numbers) gap() int64 { return n.of(0, 0, 1, 2, int64(n.below(30)), px) }

func bigSum(l ...int64) *big.Int {
	sum := new(big.Int)
	for _, n := range l {
		sum.Add(sum, big.NewInt(n))
	}
	return sum
}

// sharesByWords divides in numbers without bounds; what remains is for the greatest remainders, the first ones first.
func sharesByWords(n *big.Int, weights []int64) []int64 {
	all := bigSum(weights...)
	if all.Sign() == 0 {
		weights = alike(len(weights), 1)
		all = bigSum(weights...)
	}
	left := new(big.Int).Set(n)
	var shares []int64
	var rests []*big.Int
	var order []int
	for i, w := range weights {
		product := new(big.Int).Mul(n, big.NewInt(w))
		quotient, rest := new(big.Int).DivMod(product, all, new(big.Int))
		shares, rests, order = append(shares, quotient.Int64()), append(rests, rest), append(order, i)
		left.Sub(left, quotient)
	}
	slices.SortStableFunc(order, func(a int, b int) int { return rests[b].Cmp(rests[a]) })
	for _, i := range order[:left.Int64()] {
		shares[i]++
	}
	return shares
}

// excessByWords is what a height is more than rows.
func excessByWords(n *big.Int, rows []int64) *big.Int {
	excess := new(big.Int).Sub(n, bigSum(rows...))
	if excess.Sign() < 0 {
		excess.SetInt64(0)
	}
	return excess
}

// hold asks Right, and Least, which must agree with it as long as there are not too many places.
func hold(t *testing.T, name string, wants []int64, l []api.Place, highs []int64, gap int64, right bool) {
	t.Helper()
	if got := heights.Right(wants, l, highs, gap); got != right {
		t.Errorf("%s: Right(%d, %v, %d, %d) = %t", name, few(wants), few(l), few(highs), gap, got)
	}
	got, err := heights.Least(wants, l, highs, gap)
	if right && len(l) <= 1000 {
		if err != api.OK || len(got) != len(wants) {
			t.Errorf("%s: Least(%d, %v, %d, %d) = %d, error %d", name, few(wants), few(l), few(highs), gap, few(got), err)
		}
		return
	}
	if err != api.ErrHigh || len(got) != 0 {
		t.Errorf("%s: Least(%d, %v, %d, %d) = %d, error %d, want %d", name, few(wants), few(l), few(highs), gap, few(got), err, api.ErrHigh)
	}
}

// ofHeights are beyond the bounds of heights, at them, and within.
func ofHeights() []int64 {
	return list(math.MinInt64, math.MinInt64+1, -high-1, -high, -px-1, -px, -3, -2, -1, 0, 1, 2, px-1, px, px+1, px+2, 1<<32, high-1, high, high+1, high+2, total, total+1, 1<<60, math.MaxInt64-1, math.MaxInt64)
}

func isHeight(n int64) bool { return n >= 0 && n <= high }

func isWant(n int64) bool { return n >= -1 && n <= px }

// P16.1: what is right, written out.
func TestRight(t *testing.T) {
	three := list(-1, 20, -1)
	for _, c := range []struct {
		wants []int64
		l     []api.Place
		highs []int64
		gap   int64
	}{
		{list(-1, -1), places(at(0, 2)), list(5), 0},
		{three, places(at(0, 3), at(0, 2), at(0, 1), at(2, 1)), list(104, 62, 10, 10), 2},
		{three, nil, nil, 2},
		{three, places(), list(), 0},
		{nil, nil, nil, 0},
		{list(), places(), list(), px},
		{list(0), places(at(0, 1)), list(0), 0},
		{list(-1), places(at(0, 1)), list(high), px},
		{list(px, 0), places(at(1, 1), at(0, 2), at(0, 1)), list(high, 0, 1), px},
		{list(px), nil, nil, px},
		// Cells may be in one another, for no one asks for their columns.
		{three, places(at(0, 3), at(0, 3), at(1, 2), at(1, 2)), list(1, 2, 3, 4), 1},
	} {
		hold(t, "right", c.wants, c.l, c.highs, c.gap, true)
	}
	for _, c := range []struct {
		wants []int64
		l     []api.Place
		highs []int64
		gap   int64
	}{
		{list(-2), nil, nil, 0},
		{list(px + 1), nil, nil, 0},
		{list(1, 1), places(at(0, 3)), list(5), 0},
		{list(1, 1), places(at(2, 1)), list(5), 0},
		{list(1, 1), places(at(-1, 1)), list(5), 0},
		{list(1, 1), places(at(-1, 2)), list(5), 0},
		{list(1, 1), places(at(1, 2)), list(5), 0},
		{list(1, 1), places(at(0, 0)), list(5), 0},
		{list(1, 1), places(at(2, 0)), list(5), 0},
		{list(1, 1), places(at(1, -1)), list(5), 0},
		{list(1, 1), places(at(2, -1)), list(5), 0},
		{list(1, 1), places(api.Place{}), list(5), 0},
		{nil, places(at(0, 1)), list(5), 0},
		{nil, places(at(0, 0)), list(5), 0},
		{list(1, 1), places(at(0, 1)), list(-1), 0},
		{list(1, 1), places(at(0, 1)), list(high + 1), 0},
		{list(1, 1), places(at(0, 1)), nil, 0},
		{list(1, 1), nil, list(5), 0},
		{nil, nil, list(5), 0},
		{nil, nil, nil, -1},
		{nil, nil, nil, px + 1},
		{list(1, 1), places(at(0, 1)), list(5), -1},
		{list(1, 1), places(at(0, 1)), list(5), px + 1},
	} {
		hold(t, "wrong", c.wants, c.l, c.highs, c.gap, false)
	}
}

// P16.1: requested heights, heights of cells, and the gap have their bounds, wherever they stand.
func TestRightBounds(t *testing.T) {
	cells, highs := places(at(0, 3), at(2, 1), at(1, 2)), list(60, 7, 9)
	for _, n := range ofHeights() {
		hold(t, "a requested height alone", list(n), nil, nil, 0, isWant(n))
		hold(t, "a requested height and a cell", list(n), places(at(0, 1)), list(5), 0, isWant(n))
		hold(t, "a cell", list(-1), places(at(0, 1)), list(n), 0, isHeight(n))
		hold(t, "a gap alone", nil, nil, nil, n, n >= 0 && n <= px)
		hold(t, "a gap without cells", list(-1, -1), nil, nil, n, n >= 0 && n <= px)
		hold(t, "a gap and one row", list(-1, -1), places(at(1, 1)), list(5), n, n >= 0 && n <= px)
		hold(t, "a gap", list(-1, 2, -1), cells, highs, n, n >= 0 && n <= px)
		for i := range 3 {
			wants, other := list(-1, 2, 0), slices.Clone(highs)
			wants[i], other[i] = n, n
			hold(t, "a requested height", wants, cells, highs, 1, isWant(n))
			hold(t, "a height of a cell", list(-1, 2, 0), cells, other, 1, isHeight(n))
			hold(t, "both", wants, cells, other, 1, isWant(n) && isHeight(n))
			for _, m := range ofHeights() {
				other[(i+1)%3] = m
				hold(t, "two heights", list(-1, 2, 0), cells, other, 1, isHeight(n) && isHeight(m))
				hold(t, "a height and a gap", list(n, 2, 0), cells, highs, m, isWant(n) && m >= 0 && m <= px)
			}
		}
	}
}

// P16.1: there are at most 10000 rows.
func TestRightRows(t *testing.T) {
	for _, many := range []int{0, 1, 2, 9998, 9999, 10000, 10001, 10002, 20000, 65536, 65537} {
		right := many <= 10000
		for _, n := range list(-1, 0, 7, px) {
			hold(t, "rows", alike(many, n), nil, nil, 0, right)
			hold(t, "rows and a cell", alike(many, n), places(at(0, many)), list(5), 0, right && many > 0)
			hold(t, "rows and the last cell", alike(many, n), places(at(many-1, 1)), list(5), 0, right && many > 0)
			hold(t, "rows and a cell behind them", alike(many, n), places(at(many, 1)), list(5), 0, false)
			hold(t, "rows and a cell that is longer", alike(many, n), places(at(0, many+1)), list(5), 0, false)
		}
	}
	wants := alike(10000, 3)
	for _, i := range []int{0, 1, 5000, 9998, 9999} {
		for _, n := range list(-2, px+1) {
			wants[i] = n
			hold(t, "a wrong row of many", wants, nil, nil, 0, false)
		}
		wants[i] = 3
	}
}

// P16.1: every place has at least one row, and lies within the rows; the sum of its numbers may be beyond what an int holds.
func TestRightPlaces(t *testing.T) {
	l := []int{math.MinInt, math.MinInt + 1, -10000, -3, -2, -1, 0, 1, 2, 3, 4, 5, 9999, 10000, 10001, math.MaxInt - 4, math.MaxInt - 1, math.MaxInt}
	inside := places(at(0, 1), at(0, 3), at(1, 1))
	for rows := range 5 {
		wants := alike(rows, -1)
		for _, row := range l {
			for _, n := range l {
				right := row >= 0 && row < rows && n >= 1 && n <= rows && row+n <= rows
				hold(t, "a place", wants, places(at(row, n)), list(5), 2, right)
				if rows < 3 {
					continue
				}
				for i := range 4 {
					hold(t, "a place among others", wants, slices.Insert(slices.Clone(inside), i, at(row, n)), list(5, 6, 7, 8), 2, right)
				}
			}
		}
	}
}

// P16.1: there are as many heights as places. Right knows no bound for their number, Least does.
func TestRightCounts(t *testing.T) {
	counts := []int{0, 1, 2, 3, 999, 1000, 1001, 1002, 10001, 65537}
	for _, many := range counts {
		for _, n := range counts {
			hold(t, "cells", list(-1, -1, -1), slices.Repeat(places(at(1, 2)), many), alike(n, 5), 1, many == n)
			hold(t, "cells of one row", list(-1), slices.Repeat(places(at(0, 1)), many), alike(n, 0), 0, many == n)
		}
		if many == 0 {
			continue
		}
		for _, i := range []int{0, many / 2, many - 1} {
			l, highs := slices.Repeat(places(at(1, 2)), many), alike(many, 5)
			l[i].Rows = 3
			hold(t, "a wrong place of many", list(-1, -1, -1), l, highs, 1, false)
			l[i].Rows, highs[i] = 2, -1
			hold(t, "a wrong height of many", list(-1, -1, -1), l, highs, 1, false)
		}
	}
}

// P16.1: the nodes of places, and their columns, make no difference.
func TestOnlyRowsCount(t *testing.T) {
	for _, n := range []int{math.MinInt, -1, 0, 1, 10000, 65537, math.MaxInt} {
		for _, p := range places(api.Place{Node: n}, api.Place{Col: n}, api.Place{Cols: n}, api.Place{Node: n, Col: n, Cols: n}) {
			p.Row, p.Rows = 1, 2
			hold(t, "columns", list(-1, -1, -1), places(p), list(9), 1, true)
			wantLeast(t, list(-1, -1, -1), places(p), list(9), 1, list(0, 4, 4))
			p.Rows = 3
			hold(t, "columns and too many rows", list(-1, -1, -1), places(p), list(9), 1, false)
		}
	}
}

// P16.1: random rows and cells, of which some are wrong in one number.
func TestRightRandom(t *testing.T) {
	var n numbers = 161
	for range 20000 {
		rows, many := 1+n.below(6), 1+n.below(6)
		wants, l, highs, gap := n.wants(rows), n.places(rows, many), n.heights(many), n.gap()
		hold(t, "random", wants, l, highs, gap, true)
		i := n.below(many)
		switch n.below(6) {
		case 0:
			wants[n.below(rows)] = n.of(-2, px+1, math.MinInt64, math.MaxInt64)
		case 1:
			highs[i] = n.of(-1, high+1, math.MinInt64, math.MaxInt64)
		case 2:
			gap = n.of(-1, px+1, math.MinInt64, math.MaxInt64)
		case 3:
			l[i].Rows = int(n.of(0, -1, int64(rows-l[i].Row+1), math.MinInt, math.MaxInt))
		case 4:
			l[i].Row = int(n.of(-1, int64(rows), int64(rows-l[i].Rows+1), math.MinInt, math.MaxInt))
		case 5:
			highs = slices.Delete(highs, i, i+1)
		}
		hold(t, "random and wrong", wants, l, highs, gap, false)
		if t.Failed() {
			return
		}
	}
}

// P16.1, P16.2: what is given is not written to, in its spare capacity neither, and an answer shares memory with nothing.
func TestMemory(t *testing.T) {
	whole, wholeHighs := list(-1, 20, -1, -7, -8), list(104, 62, 10, 10, -9)
	wholePlaces := places(at(0, 3), at(0, 2), at(0, 1), at(2, 1), at(9, 9))
	before, beforeHighs, beforePlaces := slices.Clone(whole), slices.Clone(wholeHighs), slices.Clone(wholePlaces)
	wholeRows := list(10, 30, 5, -6, -5)
	beforeRows := slices.Clone(wholeRows)
	spoil := func(l []int64) {
		all := l[:cap(l)]
		for i := range all {
			all[i] = -99
		}
	}
	for many := range 5 {
		wants, l, highs := whole[:3], wholePlaces[:many], wholeHighs[:many]
		heights.Right(wants, l, highs, 2)
		first, _ := heights.Least(wants, l, highs, 2)
		want := slices.Clone(first)
		second, _ := heights.Least(wants, l, highs, 2)
		spoil(first)
		if !slices.Equal(second, want) || !slices.Equal(want, leastByWords(wants, l, highs, 2)) {
			t.Errorf("%d cells: %d, then %d", many, want, second)
		}
	}
	for _, sum := range list(0, 45, 46, 85, total) {
		for _, wants := range [][]int64{whole[:3], list(1, 1, 1), list(-1, -1, -1)} {
			first, _ := heights.Stretch(wholeRows[:3], wants, sum)
			want := slices.Clone(first)
			second, _ := heights.Stretch(wholeRows[:3], wants, sum)
			spoil(first)
			if !slices.Equal(second, want) || !slices.Equal(want, stretchByWords(wholeRows[:3], wants, sum)) {
				t.Errorf("total %d: %d, then %d", sum, want, second)
			}
		}
	}
	if !slices.Equal(whole, before) || !slices.Equal(wholeHighs, beforeHighs) || !slices.Equal(wholePlaces, beforePlaces) || !slices.Equal(wholeRows, beforeRows) {
		t.Error("what was given was written to")
	}
	rows := list(10, 30, 5)
	wantStretch(t, rows, rows, 90, list(20, 60, 10))
	if !slices.Equal(rows, list(10, 30, 5)) {
		t.Errorf("rows that are their own requested heights became %d", rows)
	}
}
