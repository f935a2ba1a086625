package collapse_test

import (
	"math"
	"slices"
	"testing"

	"purfling/api"
	"purfling/collapse"
)

const px = 1073741824

func line(style int, width int64) api.Line { return api.Line{Style: style, Width: width} }

func solid(width int64) api.Line { return line(api.BSolid, width) }

// four are the same line on all sides.
func four(l api.Line) [4]api.Line { return [4]api.Line{l, l, l, l} }

// solids are solid lines with these widths: top, right, bottom, left.
func solids(widths ...int64) [4]api.Line {
	var l [4]api.Line
	for i, width := range widths {
		l[i] = solid(width)
	}
	return l
}

func run(from int, to int, lines [4]api.Line) api.Run {
	return api.Run{From: from, To: to, Lines: lines}
}

// place has its row, its column, and how many it has of each.
func place(row int, col int, rows int, cols int) api.Place {
	return api.Place{Row: row, Col: col, Rows: rows, Cols: cols}
}

// plain has no lines but those that places need.
func plain(rows int, cols int, places ...api.Place) api.Framing {
	return api.Framing{Rows: rows, Cols: cols, Places: places, Cells: make([][4]api.Line, len(places))}
}

// numbers answers the same numbers below a bound on every run, so that a test that fails fails again.
type numbers uint64

func (n *numbers) below(bound int) int {
	*n = *n*6364136223846793005 + 1442695040888963407
	return int(uint64(*n)>>33) % bound
}

// line is much like any other one, so that all criteria have to decide now and then.
func (n *numbers) line() api.Line {
	l := api.Line{Style: n.below(12) % 10, Width: int64(n.below(3)), Color: uint32(n.below(2))}
	if l.Style == api.BNone || l.Style == api.BHidden {
		l.Width = 0
	}
	return l
}

func (n *numbers) lines() [4]api.Line {
	return [4]api.Line{n.line(), n.line(), n.line(), n.line()}
}

func (n *numbers) runs(bands int) []api.Run {
	var l []api.Run
	for many := n.below(4); bands > 0 && many > 0; many-- {
		from := n.below(bands)
		l = append(l, run(from, from+1+n.below(bands-from), n.lines()))
	}
	return l
}

// places are some that do not overlap, in no order.
func (n *numbers) places(rows int, cols int) []api.Place {
	var l []api.Place
	for try := n.below(12); rows*cols > 0 && try > 0; try-- {
		p := place(n.below(rows), n.below(cols), 1, 1)
		p.Node = n.below(100) - 20
		p.Rows, p.Cols = 1+n.below(rows-p.Row), 1+n.below(cols-p.Col)
		if !slices.ContainsFunc(l, func(q api.Place) bool { return overlap(p, q) }) {
			l = append(l, p)
		}
	}
	return l
}

func overlap(p api.Place, q api.Place) bool {
	return p.Row < q.Row+q.Rows && q.Row < p.Row+p.Rows && p.Col < q.Col+q.Cols && q.Col < p.Col+p.Cols
}

// framing is valid, with up to so many rows and columns.
func (n *numbers) framing(most int) api.Framing {
	f := api.Framing{Rows: n.below(most + 1), Cols: n.below(most + 1), Table: n.lines()}
	f.Places = n.places(f.Rows, f.Cols)
	for range f.Places {
		f.Cells = append(f.Cells, n.lines())
	}
	f.RowRuns, f.RowGroups = n.runs(f.Rows), n.runs(f.Rows)
	f.ColRuns, f.ColGroups = n.runs(f.Cols), n.runs(f.Cols)
	return f
}

// full is valid, and has something of everything; its rows are fewer than its columns.
func full() api.Framing {
	return api.Framing{
		Rows:      3,
		Cols:      4,
		Places:    []api.Place{place(0, 0, 2, 1), place(0, 1, 1, 3), place(2, 2, 1, 1)},
		Cells:     [][4]api.Line{four(solid(1)), four(solid(2)), four(solid(3))},
		RowRuns:   []api.Run{run(0, 1, four(solid(1))), run(1, 2, four(solid(2))), run(2, 3, four(solid(3)))},
		RowGroups: []api.Run{run(0, 2, four(solid(4))), run(0, 3, four(solid(5))), run(2, 3, four(solid(6)))},
		ColRuns:   []api.Run{run(0, 1, four(solid(7))), run(1, 4, four(solid(8))), run(3, 4, four(solid(9)))},
		ColGroups: []api.Run{run(0, 2, four(solid(4))), run(2, 4, four(solid(5))), run(0, 4, four(solid(6)))},
		Table:     four(solid(3)),
	}
}

func wantRight(t *testing.T, name string, f api.Framing) {
	t.Helper()
	if !collapse.Right(f) {
		t.Errorf("%s: Right = false", name)
	}
	if _, err := collapse.Edges(f); err != api.OK {
		t.Errorf("%s: Edges: error %d", name, err)
	}
	if l, err := collapse.Insets(f, nil); err != api.OK || len(l) != len(f.Places) || slices.ContainsFunc(l, func(sides [4]int64) bool { return sides != [4]int64{} }) {
		t.Errorf("%s: Insets of no edges = %v, %d", name, l, err)
	}
	if sides, err := collapse.Outer(f, nil); err != api.OK || sides != [4]int64{} {
		t.Errorf("%s: Outer of no edges = %v, %d", name, sides, err)
	}
}

func wantWrong(t *testing.T, name string, f api.Framing) {
	t.Helper()
	e := []api.Edge{{Lies: true, Won: api.Side{Line: solid(7)}}, {Won: api.Side{Line: solid(7)}}}
	if collapse.Right(f) {
		t.Errorf("%s: Right = true", name)
	}
	if l, err := collapse.Edges(f); err != api.ErrFrame || len(l) > 0 {
		t.Errorf("%s: Edges = %d edges, %d", name, len(l), err)
	}
	if l, err := collapse.Insets(f, e); err != api.ErrFrame || len(l) > 0 {
		t.Errorf("%s: Insets = %v, %d", name, l, err)
	}
	if sides, err := collapse.Outer(f, e); err != api.ErrFrame || sides != [4]int64{} {
		t.Errorf("%s: Outer = %v, %d", name, sides, err)
	}
}

// P12.1: the bounds of rows and columns, and of the slots.
func TestSizes(t *testing.T) {
	for _, size := range [][2]int{{0, 0}, {0, 1}, {1, 0}, {1, 1}, {100, 100}, {99, 101}, {1, 10000}, {10000, 1}, {5000, 2}, {3, 3333}, {0, 10000}, {65536, 0}} {
		wantRight(t, "size", plain(size[0], size[1]))
	}
	for _, size := range [][2]int{
		{1, 10001}, {10001, 1}, {101, 100}, {100, 101}, {5001, 2}, {2, 5001}, {1000, 1000}, {0, 10001}, {65537, 0}, {65536, 1},
		{-1, 0}, {0, -1}, {-1, 1}, {1, -1}, {-1, -1}, {-5, -7}, {-100, -101}, {math.MinInt, 0}, {0, math.MinInt}, {math.MinInt, 1}, {1, math.MinInt},
		{math.MinInt, math.MinInt}, {math.MinInt, 2}, {2, math.MinInt}, {math.MaxInt, 0}, {0, math.MaxInt}, {math.MaxInt, 1}, {1, math.MaxInt}, {math.MaxInt, math.MaxInt},
		{math.MaxInt, 2}, {2, math.MaxInt}, {1 << 32, 1 << 32}, {1 << 33, 1 << 31}, {1 << 62, 4}, {4, 1 << 62}, {1 << 32, 0}, {0, 1 << 32},
	} {
		wantWrong(t, "size", plain(size[0], size[1]))
	}
}

// P12.1: places that grid.Slots rejects, and lines of cells that are more or fewer than places.
func TestWrongPlaces(t *testing.T) {
	wantRight(t, "something of everything", full())
	for _, wrong := range []api.Place{
		place(0, 0, 1, 1), place(1, 0, 1, 1), place(0, 3, 1, 1), place(2, 1, 1, 2), place(2, 2, 1, 1), place(1, 1, 0, 1), place(1, 1, 1, 0), place(1, 1, -1, 1), place(1, 1, 1, -1),
		place(3, 0, 1, 1), place(0, 4, 1, 1), place(2, 3, 2, 1), place(2, 3, 1, 2), place(-1, 1, 1, 1), place(1, -1, 1, 1), place(1, 1, math.MaxInt, 1), place(math.MaxInt, 1, 1, 1), place(math.MinInt, 1, 1, 1),
	} {
		f := full()
		f.Places, f.Cells = append(f.Places, wrong), append(f.Cells, four(solid(1)))
		wantWrong(t, "one place more", f)
		f = plain(3, 4, append([]api.Place{wrong}, full().Places...)...)
		wantWrong(t, "one place before", f)
	}
	f := full()
	f.Places, f.Cells = append(f.Places, place(1, 1, 1, 3)), append(f.Cells, four(solid(1)))
	wantRight(t, "one place more, where there is room", f)
	for many := range 6 {
		f := full()
		f.Cells = slices.Repeat([][4]api.Line{four(solid(1))}, many)
		if many == 3 {
			wantRight(t, "as many cells as places", f)
		} else {
			wantWrong(t, "cells", f)
		}
	}
	f = plain(3, 4)
	f.Cells = [][4]api.Line{{}}
	wantWrong(t, "a cell and no place", f)
	f = plain(3, 4, place(0, 0, 1, 1))
	f.Cells = nil
	wantWrong(t, "a place and no cell", f)
}

// lists are the four lists of runs of a framing, and how many bands there are for each.
func lists(f *api.Framing) ([4]*[]api.Run, [4]int) {
	return [4]*[]api.Run{&f.RowRuns, &f.RowGroups, &f.ColRuns, &f.ColGroups}, [4]int{f.Rows, f.Rows, f.Cols, f.Cols}
}

// P12.1: the bounds of runs, in each of the lists, before and behind the others.
func TestWrongRuns(t *testing.T) {
	for which := range 4 {
		_, bands := lists(&api.Framing{Rows: 3, Cols: 4})
		most := bands[which]
		for from := -2; from <= 6; from++ {
			for to := -2; to <= 6; to++ {
				right := 0 <= from && to <= most && from < to
				holdRun(t, which, run(from, to, four(solid(1))), right)
			}
		}
		for _, n := range []int{math.MinInt, math.MinInt + 1, -1 << 32, 1 << 32, 1<<32 + 1, math.MaxInt - 1, math.MaxInt} {
			for other := range most + 1 {
				holdRun(t, which, run(n, other, four(solid(1))), false)
				holdRun(t, which, run(other, n, four(solid(1))), false)
				holdRun(t, which, run(n, n, four(solid(1))), false)
				holdRun(t, which, run(n, -n, four(solid(1))), false)
			}
		}
	}
}

// holdRun puts a run into the list at each place of it, and into the list alone.
func holdRun(t *testing.T, which int, wrong api.Run, right bool) {
	t.Helper()
	want := wantWrong
	if right {
		want = wantRight
	}
	for at := range 4 {
		f := full()
		l, _ := lists(&f)
		*l[which] = slices.Insert(slices.Clone(*l[which]), at, wrong)
		want(t, "a run more", f)
	}
	f := plain(3, 4)
	l, _ := lists(&f)
	*l[which] = []api.Run{wrong}
	want(t, "a run alone", f)
}

// P12.1: runs where there are no bands for them.
func TestRunsOfNothing(t *testing.T) {
	for which := range 4 {
		for _, size := range [][2]int{{0, 0}, {0, 4}, {3, 0}} {
			f := plain(size[0], size[1])
			l, bands := lists(&f)
			*l[which] = []api.Run{run(0, 1, four(solid(1)))}
			if bands[which] > 0 {
				wantRight(t, "a run", f)
			} else {
				wantWrong(t, "a run where there are no bands", f)
			}
			*l[which] = []api.Run{run(0, 0, four(solid(1)))}
			wantWrong(t, "a run of no bands", f)
		}
	}
}

// lines are all the lines of a framing.
func lines(f *api.Framing) []*api.Line {
	var l []*api.Line
	each := func(four *[4]api.Line) {
		for at := range four {
			l = append(l, &four[at])
		}
	}
	for i := range f.Cells {
		each(&f.Cells[i])
	}
	runs, _ := lists(f)
	for _, list := range runs {
		for i := range *list {
			each(&(*list)[i].Lines)
		}
	}
	each(&f.Table)
	return l
}

// P12.1: the bounds of each line, wherever it stands.
func TestLines(t *testing.T) {
	count := full()
	if n := len(lines(&count)); n != 4*(3+12+1) {
		t.Fatalf("%d lines", n)
	}
	for at := range lines(&count) {
		for style := -2; style <= 11; style++ {
			for _, width := range []int64{math.MinInt64, -px, -1, 0, 1, 2, px - 1, px, px + 1, 1<<32 + 1, math.MaxInt64} {
				right := api.BDouble <= style && style <= api.BInset && 0 <= width && width <= px
				right = right || (style == api.BNone || style == api.BHidden) && width == 0
				f := full()
				*lines(&f)[at] = api.Line{Style: style, Width: width, Color: uint32(at) * 67108865}
				if right {
					wantRight(t, "line", f)
				} else {
					wantWrong(t, "line", f)
				}
			}
		}
		for _, style := range []int{math.MinInt, math.MaxInt, 1 << 32, 1<<32 + 3} {
			f := full()
			lines(&f)[at].Style = style
			wantWrong(t, "style", f)
		}
	}
}

// P12.1: lists that are nil or empty are the same.
func TestNothing(t *testing.T) {
	for _, f := range []api.Framing{{}, {Places: []api.Place{}, Cells: [][4]api.Line{}, RowRuns: []api.Run{}, RowGroups: []api.Run{}, ColRuns: []api.Run{}, ColGroups: []api.Run{}}} {
		wantRight(t, "nothing", f)
		if l, err := collapse.Edges(f); len(l) != 0 || err != api.OK {
			t.Errorf("Edges of nothing = %v, %d", l, err)
		}
		f.Table = four(solid(4))
		if l, err := collapse.Edges(f); len(l) != 0 || err != api.OK {
			t.Errorf("Edges of a table without slots = %v, %d", l, err)
		}
		f.Cols = 2
		f.Table[2] = solid(-1)
		wantWrong(t, "nothing, and a wrong line", f)
	}
}
