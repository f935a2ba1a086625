package collapse_test

import (
	"math"
	"reflect"
	"slices"
	"testing"

	"purfling/api"
	"purfling/collapse"
	"purfling/contest"
)

// owner goes through the places, for it must not lean on what is tested.
func owner(f api.Framing, row int, col int) int {
	return slices.IndexFunc(f.Places, func(p api.Place) bool {
		return p.Row <= row && row < p.Row+p.Rows && p.Col <= col && col < p.Col+p.Cols
	})
}

// won is the edge with the sides that are asked for.
func won(row int, col int, lies bool, l []api.Side) api.Edge {
	e := api.Edge{Row: row, Col: col, Lies: lies, Asked: len(l)}
	if len(l) > 0 {
		e.Won, _ = contest.Winner(l...)
	}
	return e
}

func byCell(f api.Framing, at int, side int) api.Side {
	return api.Side{Line: f.Cells[at][side], By: api.ByCell, Row: f.Places[at].Row, Col: f.Places[at].Col}
}

func byRows(by int, r api.Run, side int) api.Side {
	return api.Side{Line: r.Lines[side], By: by, Row: r.From}
}

func byCols(by int, r api.Run, side int) api.Side {
	return api.Side{Line: r.Lines[side], By: by, Col: r.From}
}

func byTable(f api.Framing, side int) api.Side {
	return api.Side{Line: f.Table[side], By: api.ByTable}
}

// lyingRequests follows the chapter's words, one by one.
func lyingRequests(f api.Framing, r int, c int) []api.Side {
	var l []api.Side
	if at := owner(f, r-1, c); at >= 0 {
		l = append(l, byCell(f, at, 2))
	}
	if at := owner(f, r, c); at >= 0 {
		l = append(l, byCell(f, at, 0))
	}
	for i, list := range [][]api.Run{f.RowRuns, f.RowGroups} {
		for _, x := range list {
			if x.To == r {
				l = append(l, byRows(api.ByRow+i, x, 2))
			}
			if x.From == r {
				l = append(l, byRows(api.ByRow+i, x, 0))
			}
		}
	}
	for _, end := range [][2]int{{0, 0}, {f.Rows, 2}} {
		if r != end[0] {
			continue
		}
		for i, list := range [][]api.Run{f.ColRuns, f.ColGroups} {
			for _, x := range list {
				if x.From <= c && c < x.To {
					l = append(l, byCols(api.ByCol+i, x, end[1]))
				}
			}
		}
		l = append(l, byTable(f, end[1]))
	}
	return l
}

// standingRequests does so, too, with columns instead of rows.
func standingRequests(f api.Framing, r int, c int) []api.Side {
	var l []api.Side
	if at := owner(f, r, c-1); at >= 0 {
		l = append(l, byCell(f, at, 1))
	}
	if at := owner(f, r, c); at >= 0 {
		l = append(l, byCell(f, at, 3))
	}
	for i, list := range [][]api.Run{f.ColRuns, f.ColGroups} {
		for _, x := range list {
			if x.To == c {
				l = append(l, byCols(api.ByCol+i, x, 1))
			}
			if x.From == c {
				l = append(l, byCols(api.ByCol+i, x, 3))
			}
		}
	}
	for _, end := range [][2]int{{0, 3}, {f.Cols, 1}} {
		if c != end[0] {
			continue
		}
		for i, list := range [][]api.Run{f.RowRuns, f.RowGroups} {
			for _, x := range list {
				if x.From <= r && r < x.To {
					l = append(l, byRows(api.ByRow+i, x, end[1]))
				}
			}
		}
		l = append(l, byTable(f, end[1]))
	}
	return l
}

func edgesByWords(f api.Framing) []api.Edge {
	var l []api.Edge
	for r := 0; r <= f.Rows; r++ {
		for c := 0; c < f.Cols; c++ {
			if at := owner(f, r, c); at < 0 || at != owner(f, r-1, c) {
				l = append(l, won(r, c, true, lyingRequests(f, r, c)))
			}
		}
	}
	for r := 0; r < f.Rows; r++ {
		for c := 0; c <= f.Cols; c++ {
			if at := owner(f, r, c); at < 0 || at != owner(f, r, c-1) {
				l = append(l, won(r, c, false, standingRequests(f, r, c)))
			}
		}
	}
	return l
}

func wantEdges(t *testing.T, name string, f api.Framing, want []api.Edge) {
	t.Helper()
	if !collapse.Right(f) {
		t.Fatalf("%s: Right(%v) = false", name, f)
	}
	got, err := collapse.Edges(f)
	if err != api.OK || len(got) != len(want) {
		t.Fatalf("%s: Edges = %d edges, %d, want %d", name, len(got), err, len(want))
	}
	for i := range want {
		if got[i] != want[i] {
			t.Fatalf("%s: edge %d = %v, want %v", name, i, got[i], want[i])
		}
	}
}

// lie is an edge of its own row and column, with the line and the origin of its winner; stand likewise.
func lie(row int, col int, asked int, l api.Line, by ...int) api.Edge {
	side := api.Side{Line: l}
	if len(by) == 3 {
		side.By, side.Row, side.Col = by[0], by[1], by[2]
	}
	return api.Edge{Row: row, Col: col, Lies: true, Won: side, Asked: asked}
}

func stand(row int, col int, asked int, l api.Line, by ...int) api.Edge {
	e := lie(row, col, asked, l, by...)
	e.Lies = false
	return e
}

// P12.1: the example of the chapter.
func TestExample(t *testing.T) {
	f := plain(1, 1, place(0, 0, 1, 1))
	f.Cells[0] = four(solid(4))
	f.Table = four(line(api.BDashed, 6))
	d := line(api.BDashed, 6)
	wantEdges(t, "example", f, []api.Edge{
		lie(0, 0, 2, d, api.ByTable, 0, 0), lie(1, 0, 2, d, api.ByTable, 0, 0),
		stand(0, 0, 2, d, api.ByTable, 0, 0), stand(0, 1, 2, d, api.ByTable, 0, 0),
	})
}

// P12.1: each line of two cells, one of which is higher and beside an empty slot, at its own edges.
func TestCells(t *testing.T) {
	f := plain(2, 2, place(0, 1, 2, 1), place(1, 0, 1, 1))
	f.Cells = [][4]api.Line{solids(11, 12, 13, 14), solids(21, 22, 23, 24)}
	wantEdges(t, "cells", f, []api.Edge{
		lie(0, 0, 1, api.Line{}, api.ByTable, 0, 0), lie(0, 1, 2, solid(11), api.ByCell, 0, 1),
		lie(1, 0, 1, solid(21), api.ByCell, 1, 0),
		lie(2, 0, 2, solid(23), api.ByCell, 1, 0), lie(2, 1, 2, solid(13), api.ByCell, 0, 1),
		stand(0, 0, 1, api.Line{}, api.ByTable, 0, 0), stand(0, 1, 1, solid(14), api.ByCell, 0, 1), stand(0, 2, 2, solid(12), api.ByCell, 0, 1),
		stand(1, 0, 2, solid(24), api.ByCell, 1, 0), stand(1, 1, 2, solid(22), api.ByCell, 1, 0), stand(1, 2, 2, solid(12), api.ByCell, 0, 1),
	})
}

// P12.1: edges at which nothing is asked for have a zero side, between empty slots, too.
func TestNobodyAsks(t *testing.T) {
	f := plain(2, 3)
	f.Table = solids(1, 2, 3, 4)
	wantEdges(t, "empty slots", f, []api.Edge{
		lie(0, 0, 1, solid(1), api.ByTable, 0, 0), lie(0, 1, 1, solid(1), api.ByTable, 0, 0), lie(0, 2, 1, solid(1), api.ByTable, 0, 0),
		lie(1, 0, 0, api.Line{}), lie(1, 1, 0, api.Line{}), lie(1, 2, 0, api.Line{}),
		lie(2, 0, 1, solid(3), api.ByTable, 0, 0), lie(2, 1, 1, solid(3), api.ByTable, 0, 0), lie(2, 2, 1, solid(3), api.ByTable, 0, 0),
		stand(0, 0, 1, solid(4), api.ByTable, 0, 0), stand(0, 1, 0, api.Line{}), stand(0, 2, 0, api.Line{}), stand(0, 3, 1, solid(2), api.ByTable, 0, 0),
		stand(1, 0, 1, solid(4), api.ByTable, 0, 0), stand(1, 1, 0, api.Line{}), stand(1, 2, 0, api.Line{}), stand(1, 3, 1, solid(2), api.ByTable, 0, 0),
	})
}

// P12.1: the lines of runs of rows at their seams, and at both ends of their rows.
func TestRowRuns(t *testing.T) {
	f := plain(3, 1)
	f.RowRuns = []api.Run{run(1, 2, solids(11, 12, 13, 14))}
	f.RowGroups = []api.Run{run(1, 3, solids(21, 22, 9, 24))}
	wantEdges(t, "runs of rows", f, []api.Edge{
		lie(0, 0, 1, api.Line{}, api.ByTable, 0, 0),
		lie(1, 0, 2, solid(21), api.ByRowGroup, 1, 0),
		lie(2, 0, 1, solid(13), api.ByRow, 1, 0),
		lie(3, 0, 2, solid(9), api.ByRowGroup, 1, 0),
		stand(0, 0, 1, api.Line{}, api.ByTable, 0, 0), stand(0, 1, 1, api.Line{}, api.ByTable, 0, 0),
		stand(1, 0, 3, solid(24), api.ByRowGroup, 1, 0), stand(1, 1, 3, solid(22), api.ByRowGroup, 1, 0),
		stand(2, 0, 2, solid(24), api.ByRowGroup, 1, 0), stand(2, 1, 2, solid(22), api.ByRowGroup, 1, 0),
	})
}

// P12.1: the lines of runs of columns likewise, and two runs that meet.
func TestColRuns(t *testing.T) {
	f := plain(1, 3)
	f.ColRuns = []api.Run{run(0, 2, solids(11, 12, 13, 14)), run(2, 3, solids(15, 16, 17, 18))}
	f.ColGroups = []api.Run{run(1, 3, solids(21, 5, 9, 5))}
	wantEdges(t, "runs of columns", f, []api.Edge{
		lie(0, 0, 2, solid(11), api.ByCol, 0, 0), lie(0, 1, 3, solid(21), api.ByColGroup, 0, 1), lie(0, 2, 3, solid(21), api.ByColGroup, 0, 1),
		lie(1, 0, 2, solid(13), api.ByCol, 0, 0), lie(1, 1, 3, solid(13), api.ByCol, 0, 0), lie(1, 2, 3, solid(17), api.ByCol, 0, 2),
		stand(0, 0, 2, solid(14), api.ByCol, 0, 0), stand(0, 1, 1, solid(5), api.ByColGroup, 0, 1), stand(0, 2, 2, solid(18), api.ByCol, 0, 2), stand(0, 3, 3, solid(16), api.ByCol, 0, 2),
	})
}

// P12.1: where lines are alike, the origin decides, then the row, then the column.
func TestOrigins(t *testing.T) {
	s := four(solid(1))
	all := api.Framing{Rows: 1, Cols: 1, Places: []api.Place{place(0, 0, 1, 1)}, Cells: [][4]api.Line{s}, RowRuns: []api.Run{run(0, 1, s)}, RowGroups: []api.Run{run(0, 1, s)}, ColRuns: []api.Run{run(0, 1, s)}, ColGroups: []api.Run{run(0, 1, s)}, Table: s}
	for by := api.ByCell; by <= api.ByTable; by++ {
		n := 6 - by
		wantEdges(t, "origins", all, []api.Edge{lie(0, 0, n, solid(1), by, 0, 0), lie(1, 0, n, solid(1), by, 0, 0), stand(0, 0, n, solid(1), by, 0, 0), stand(0, 1, n, solid(1), by, 0, 0)})
		switch by {
		case api.ByCell:
			all.Places, all.Cells = nil, nil
		case api.ByRow:
			all.RowRuns = nil
		case api.ByRowGroup:
			all.RowGroups = nil
		case api.ByCol:
			all.ColRuns = nil
		case api.ByColGroup:
			all.ColGroups = nil
		}
	}
	f := plain(2, 2, place(1, 1, 1, 1), place(1, 0, 1, 1), place(0, 1, 1, 1), place(0, 0, 1, 1))
	f.Cells = [][4]api.Line{s, s, s, s}
	want := [][2]int{{0, 0}, {0, 1}, {0, 0}, {0, 1}, {1, 0}, {1, 1}, {0, 0}, {0, 0}, {0, 1}, {1, 0}, {1, 0}, {1, 1}}
	got, _ := collapse.Edges(f)
	for i, e := range got {
		if e.Won.By != api.ByCell || e.Won.Row != want[i][0] || e.Won.Col != want[i][1] {
			t.Errorf("edge %v, want the line of the cell %v", e, want[i])
		}
	}
}

// P12.1: a hidden line wins against all, and a line that is none against nothing, but both are asked for.
func TestHiddenAndNone(t *testing.T) {
	f := plain(1, 2, place(0, 0, 1, 1), place(0, 1, 1, 1))
	f.Cells[0] = four(line(api.BDouble, px))
	f.Cells[1][3] = line(api.BHidden, 0)
	f.RowRuns = []api.Run{run(0, 1, [4]api.Line{{}, {}, line(api.BHidden, 0), {}})}
	wantEdges(t, "hidden and none", f, []api.Edge{
		lie(0, 0, 3, line(api.BDouble, px), api.ByCell, 0, 0), lie(0, 1, 3, api.Line{}, api.ByCell, 0, 1),
		lie(1, 0, 3, line(api.BHidden, 0), api.ByRow, 0, 0), lie(1, 1, 3, line(api.BHidden, 0), api.ByRow, 0, 0),
		stand(0, 0, 3, line(api.BDouble, px), api.ByCell, 0, 0), stand(0, 1, 2, line(api.BHidden, 0), api.ByCell, 0, 1), stand(0, 2, 3, api.Line{}, api.ByCell, 0, 1),
	})
}

// P12.1: where there are no columns, the edges of rows are at both ends of them, and so with columns where there are no rows.
func TestNoBands(t *testing.T) {
	f := plain(2, 0)
	f.Table = solids(1, 2, 3, 4)
	f.RowRuns = []api.Run{run(1, 2, solids(5, 7, 5, 6))}
	wantEdges(t, "no columns", f, []api.Edge{stand(0, 0, 2, solid(4), api.ByTable, 0, 0), stand(1, 0, 4, solid(7), api.ByRow, 1, 0)})
	f = plain(0, 2)
	f.Table = solids(1, 2, 3, 4)
	f.ColGroups = []api.Run{run(1, 2, solids(6, 5, 7, 5))}
	wantEdges(t, "no rows", f, []api.Edge{lie(0, 0, 2, solid(3), api.ByTable, 0, 0), lie(0, 1, 4, solid(7), api.ByColGroup, 0, 1)})
}

// P12.1, P12.3: random framings against the chapter's words.
func TestEdgesByWords(t *testing.T) {
	r := numbers(12)
	for i := range 20000 {
		f := r.framing(2 + i%5)
		wantEdges(t, "random", f, edgesByWords(f))
	}
	for range 40 {
		f := r.framing(30)
		for range 30 {
			f.RowRuns, f.RowGroups = append(f.RowRuns, r.runs(f.Rows)...), append(f.RowGroups, r.runs(f.Rows)...)
			f.ColRuns, f.ColGroups = append(f.ColRuns, r.runs(f.Cols)...), append(f.ColGroups, r.runs(f.Cols)...)
		}
		wantEdges(t, "random, with many runs", f, edgesByWords(f))
	}
}

// P12.1: one run of each length at each place, among all numbers of bands about powers of two.
func TestOneRun(t *testing.T) {
	for bands := range 18 {
		for from := range bands {
			for to := from + 1; to <= bands; to++ {
				f := plain(bands, 1)
				f.RowGroups = []api.Run{run(from, to, solids(1, 2, 3, 4))}
				wantEdges(t, "one run of rows", f, edgesByWords(f))
				f = plain(1, bands)
				f.ColRuns = []api.Run{run(from, to, solids(1, 2, 3, 4))}
				wantEdges(t, "one run of columns", f, edgesByWords(f))
			}
		}
	}
}

func (n *numbers) shuffle(l []api.Run) []api.Run {
	l = slices.Clone(l)
	for i := range l {
		j := i + n.below(len(l)-i)
		l[i], l[j] = l[j], l[i]
	}
	return l
}

// P12.3: the order of runs makes no difference, nor does that of places together with their cells.
func TestOrderOfRuns(t *testing.T) {
	r := numbers(13)
	for range 3000 {
		f := r.framing(5)
		want, _ := collapse.Edges(f)
		for range 4 {
			f.RowRuns, f.RowGroups = r.shuffle(f.RowRuns), r.shuffle(f.RowGroups)
			f.ColRuns, f.ColGroups = r.shuffle(f.ColRuns), r.shuffle(f.ColGroups)
			wantEdges(t, "runs in another order", f, want)
		}
		slices.Reverse(f.Places)
		slices.Reverse(f.Cells)
		wantEdges(t, "places in another order", f, want)
	}
}

// P12.3: each edge occurs once, between two places and at the boundary, and none inside a place; they are in order.
func TestEachEdgeOnce(t *testing.T) {
	r := numbers(14)
	for range 3000 {
		f := r.framing(6)
		l, _ := collapse.Edges(f)
		want := (f.Rows+1)*f.Cols + f.Rows*(f.Cols+1)
		for _, p := range f.Places {
			want -= (p.Rows-1)*p.Cols + p.Rows*(p.Cols-1)
		}
		if len(l) != want {
			t.Fatalf("%d edges, want %d", len(l), want)
		}
		for i, e := range l {
			if i > 0 && !before(l[i-1], e) {
				t.Fatalf("%v and then %v", l[i-1], e)
			}
			if e.Row < 0 || e.Col < 0 || e.Row > f.Rows || e.Col > f.Cols || e.Lies && e.Col == f.Cols || !e.Lies && e.Row == f.Rows {
				t.Fatalf("the edge %v in %d rows and %d columns", e, f.Rows, f.Cols)
			}
		}
	}
}

func before(a api.Edge, b api.Edge) bool {
	if a.Lies != b.Lies {
		return a.Lies
	}
	return a.Row < b.Row || a.Row == b.Row && a.Col < b.Col
}

// P12.1: the greatest grids, and runs of all their bands that no one could go through for each band.
func TestMany(t *testing.T) {
	const many = 20000
	long := func(bands int) []api.Run {
		l := make([]api.Run, many)
		for i := range l {
			l[i] = run(0, bands, solids(1, 2, 3, 4))
			l[i].Lines[0].Color = uint32(many - i)
		}
		l[many/2].Lines = solids(5, 6, 7, 8)
		return l
	}
	f := plain(1, 10000)
	f.ColRuns = long(10000)
	f.ColGroups = []api.Run{run(0, 1, solids(9, 9, 9, 9)), run(9999, 10000, solids(9, 9, 9, 9))}
	l, err := collapse.Edges(f)
	if err != api.OK || len(l) != 30001 {
		t.Fatalf("%d edges, %d", len(l), err)
	}
	for at, want := range map[int]api.Edge{
		0:     lie(0, 0, many+2, solid(9), api.ByColGroup, 0, 0),
		1:     lie(0, 1, many+1, solid(5), api.ByCol, 0, 0),
		5000:  lie(0, 5000, many+1, solid(5), api.ByCol, 0, 0),
		9998:  lie(0, 9998, many+1, solid(5), api.ByCol, 0, 0),
		9999:  lie(0, 9999, many+2, solid(9), api.ByColGroup, 0, 9999),
		10001: lie(1, 1, many+1, solid(7), api.ByCol, 0, 0),
		20000: stand(0, 0, many+2, solid(9), api.ByColGroup, 0, 0),
		20001: stand(0, 1, 1, solid(9), api.ByColGroup, 0, 0),
		20002: stand(0, 2, 0, api.Line{}),
		30000: stand(0, 10000, many+2, solid(9), api.ByColGroup, 0, 9999),
	} {
		if l[at] != want {
			t.Errorf("edge %d = %v, want %v", at, l[at], want)
		}
	}
	f = plain(65536, 0)
	f.RowRuns = long(65536)
	f.RowGroups = []api.Run{run(65535, 65536, four(solid(1)))}
	l, err = collapse.Edges(f)
	if err != api.OK || len(l) != 65536 {
		t.Fatalf("%d edges, %d", len(l), err)
	}
	for at, e := range l {
		want := stand(at, 0, 2*many+2, solid(8), api.ByRow, 0, 0)
		if at == 65535 {
			want.Asked += 2
		}
		if e != want {
			t.Fatalf("edge %d = %v, want %v", at, e, want)
		}
	}
}

// P12.1: ten thousand cells, and one of ten thousand slots.
func TestMostSlots(t *testing.T) {
	f := plain(100, 100)
	for i := range 10000 {
		f.Places = append(f.Places, place(i/100, i%100, 1, 1))
		f.Cells = append(f.Cells, solids(1, 2, 3, 4))
	}
	l, err := collapse.Edges(f)
	if err != api.OK || len(l) != 20200 {
		t.Fatalf("%d edges, %d", len(l), err)
	}
	for _, e := range l {
		inner := e.Lies && e.Row%100 > 0 || !e.Lies && e.Col%100 > 0
		if inner && (e.Asked != 2 || e.Lies && e.Won.Line != solid(3) || !e.Lies && e.Won.Line != solid(4)) || !inner && e.Asked != 2 {
			t.Fatalf("edge %v", e)
		}
	}
	f = plain(100, 100, place(0, 0, 100, 100))
	f.Cells[0] = solids(1, 2, 3, 4)
	wantEdges(t, "one place", f, edgesByWords(f))
}

// roomy is the list with spare capacity, and something in it.
func roomy[E any](l []E, spare E) []E {
	return append(slices.Clone(l), spare, spare, spare)[:len(l)]
}

// all is the list with what is in its spare capacity.
func all[E any](l []E) []E { return slices.Clone(l[:cap(l)]) }

// whole is a framing with what is in the spare capacity of its lists.
func whole(f api.Framing) api.Framing {
	f.Places, f.Cells = all(f.Places), all(f.Cells)
	f.RowRuns, f.RowGroups, f.ColRuns, f.ColGroups = all(f.RowRuns), all(f.RowGroups), all(f.ColRuns), all(f.ColGroups)
	return f
}

// P12.1, P12.2: framings and edges are left as they are, and their spare capacity, too, with an error or without.
func TestNothingIsChanged(t *testing.T) {
	r := numbers(15)
	for i := range 1000 {
		f := r.framing(5)
		e, _ := collapse.Edges(f)
		spare := run(77, 78, four(solid(79)))
		f.Places, f.Cells = roomy(f.Places, place(1, 2, 3, 4)), roomy(f.Cells, four(solid(5)))
		f.RowRuns, f.RowGroups, f.ColRuns, f.ColGroups = roomy(f.RowRuns, spare), roomy(f.RowGroups, spare), roomy(f.ColRuns, spare), roomy(f.ColGroups, spare)
		if i%3 == 0 {
			f.Table[i/3%4].Width = -1
		}
		e = roomy(e, api.Edge{Row: 80})
		before, beforeEdges := whole(f), all(e)
		collapse.Right(f)
		collapse.Edges(f)
		collapse.Insets(f, e)
		collapse.Outer(f, e)
		if after := whole(f); !reflect.DeepEqual(after, before) || !slices.Equal(all(e), beforeEdges) {
			t.Fatalf("%v became %v, %v became %v", before, after, beforeEdges, all(e))
		}
	}
}

// wreck writes to all that a list has, beyond its end, too.
func wreck[E any](l []E, with E) {
	for i := range l[:cap(l)] {
		l[:cap(l)][i] = with
	}
}

// P12.1, P12.2: what one call has returned is no part of what it was given, nor of what another one returns.
func TestAnswersAreNewMemory(t *testing.T) {
	f := full()
	want, wantInsets := edgesByWords(f), insetsByWords(f, edgesByWords(f))
	first, _ := collapse.Edges(f)
	firstInsets, _ := collapse.Insets(f, first)
	wreck(first, api.Edge{Row: 99})
	wreck(firstInsets, [4]int64{98, 97, 96, 95})
	wantEdges(t, "again", f, want)
	got, _ := collapse.Edges(f)
	insets, _ := collapse.Insets(f, got)
	wreck(f.Places, place(1, 1, 1, 1))
	wreck(f.Cells, four(solid(math.MaxInt64)))
	wreck(f.RowRuns, api.Run{})
	wreck(f.ColGroups, api.Run{})
	if !slices.Equal(got, want) {
		t.Errorf("writing to the framing, the edges became %v", got)
	}
	wreck(got, api.Edge{})
	if !slices.Equal(insets, wantInsets) {
		t.Errorf("writing to the framing and the edges, the insets became %v, want %v", insets, wantInsets)
	}
}
