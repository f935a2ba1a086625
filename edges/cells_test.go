package edges_test

import (
	"math"
	"slices"
	"testing"

	"purfling/api"
	"purfling/edges"
	"purfling/rect"
)

func box(x int64, y int64, w int64, h int64) api.Rect {
	return api.Rect{X: x, Y: y, W: w, H: h}
}

// at is a place in the order in which the document has its numbers: row, column, rows, columns.
func at(row int, col int, rows int, cols int) api.Place {
	return api.Place{Row: row, Col: col, Rows: rows, Cols: cols}
}

// each has a place for every slot.
func each(rows int, cols int) []api.Place {
	var l []api.Place
	for row := range rows {
		for col := range cols {
			l = append(l, at(row, col, 1, 1))
		}
	}
	return l
}

func wantCells(t *testing.T, l []api.Place, cols []int64, rows []int64, gaps [2]int64, want []api.Rect) {
	t.Helper()
	if got, err := edges.Cells(l, cols, rows, gaps); !slices.Equal(got, want) || err != api.OK {
		t.Errorf("Cells(%v, %d, %d, %d) = %v, %d, want %v", few(l), few(cols), few(rows), gaps, few(got), err, few(want))
	}
}

func wantNoCells(t *testing.T, name string, l []api.Place, cols []int64, rows []int64, gaps [2]int64) {
	t.Helper()
	if got, err := edges.Cells(l, cols, rows, gaps); len(got) > 0 || err != api.ErrBands {
		t.Errorf("%s: Cells(%v, %d, %d, %d) = %v, %d", name, few(l), few(cols), few(rows), gaps, few(got), err)
	}
}

func wantGutters(t *testing.T, cols []int64, rows []int64, gaps [2]int64, want []api.Rect) {
	t.Helper()
	if got, err := edges.Gutters(cols, rows, gaps); !slices.Equal(got, want) || err != api.OK {
		t.Errorf("Gutters(%d, %d, %d) = %d: %v, %d, want %d: %v", few(cols), few(rows), gaps, len(got), few(got), err, len(want), few(want))
	}
}

func wantNoGutters(t *testing.T, name string, cols []int64, rows []int64, gaps [2]int64) {
	t.Helper()
	if got, err := edges.Gutters(cols, rows, gaps); len(got) > 0 || err != api.ErrBands {
		t.Errorf("%s: Gutters(%d, %d, %d) = %v, %d", name, few(cols), few(rows), gaps, few(got), err)
	}
}

// P10.2: rectangles of places, written out: the gaps within a place are its own, those around it are not.
func TestCells(t *testing.T) {
	cols, rows, gaps := []int64{5, 7, 0, 3}, []int64{10, 20}, [2]int64{2, 1}
	for _, c := range []struct {
		place api.Place
		want  api.Rect
	}{
		{at(0, 0, 1, 1), box(2, 1, 5, 10)},
		{at(0, 0, 1, 2), box(2, 1, 14, 10)},
		{at(0, 0, 1, 3), box(2, 1, 16, 10)},
		{at(0, 0, 2, 4), box(2, 1, 21, 31)},
		{at(0, 1, 2, 1), box(9, 1, 7, 31)},
		{at(1, 0, 1, 1), box(2, 12, 5, 20)},
		{at(1, 1, 1, 3), box(9, 12, 14, 20)},
		{at(1, 3, 1, 1), box(20, 12, 3, 20)},
		{at(0, 2, 1, 1), box(18, 1, 0, 10)},
		{at(0, 2, 2, 1), box(18, 1, 0, 31)},
		{at(1, 2, 1, 2), box(18, 12, 5, 20)},
	} {
		wantCells(t, []api.Place{c.place}, cols, rows, gaps, []api.Rect{c.want})
	}
	wantCells(t, []api.Place{at(1, 3, 1, 1), at(0, 0, 1, 2), at(0, 0, 1, 2), at(0, 1, 2, 2)}, cols, rows, gaps,
		[]api.Rect{box(20, 12, 3, 20), box(2, 1, 14, 10), box(2, 1, 14, 10), box(9, 1, 9, 31)})
	wantCells(t, each(2, 2), []int64{5, 7}, []int64{10, 20}, [2]int64{}, []api.Rect{box(0, 0, 5, 10), box(5, 0, 7, 10), box(0, 10, 5, 20), box(5, 10, 7, 20)})
	wantCells(t, each(2, 2), []int64{5, 7}, []int64{10, 20}, [2]int64{3, 0}, []api.Rect{box(3, 0, 5, 10), box(11, 0, 7, 10), box(3, 10, 5, 20), box(11, 10, 7, 20)})
	wantCells(t, each(2, 2), []int64{5, 7}, []int64{10, 20}, [2]int64{0, 3}, []api.Rect{box(0, 3, 5, 10), box(5, 3, 7, 10), box(0, 16, 5, 20), box(5, 16, 7, 20)})
	wantCells(t, each(2, 2), []int64{0, 0}, []int64{0, 0}, [2]int64{}, make([]api.Rect, 4))
	wantCells(t, []api.Place{at(0, 0, 2, 2)}, []int64{0, 0}, []int64{0, 0}, [2]int64{2, 1}, []api.Rect{box(2, 1, 2, 1)})
	for _, bands := range [][]int64{nil, {}, {5, 7}} {
		wantCells(t, nil, bands, nil, [2]int64{2, 1}, nil)
		wantCells(t, []api.Place{}, nil, bands, [2]int64{}, nil)
	}
}

// P10.2: the node of a place may be any number, and changes nothing.
func TestNodesDontCount(t *testing.T) {
	for _, node := range []int{math.MinInt, -1, 0, 1, 7, 65536, math.MaxInt} {
		place := at(0, 1, 2, 1)
		place.Node = node
		wantCells(t, []api.Place{place}, []int64{5, 7}, []int64{10, 20}, [2]int64{2, 1}, []api.Rect{box(9, 1, 7, 31)})
	}
}

// P10.2: a place has a row and a column at least, and lies within the bands; one that doesn't makes all an error, wherever it stands.
func TestWrongPlaces(t *testing.T) {
	cols, rows := []int64{5, 7, 0, 3}, []int64{10, 20}
	l := []api.Place{
		{}, at(0, 0, 0, 1), at(0, 0, 1, 0), at(0, 0, -1, 1), at(0, 0, 1, -1), at(1, 1, -1, -1), at(2, 4, -2, -4),
		at(-1, 0, 1, 1), at(0, -1, 1, 1), at(-1, 0, 2, 1), at(0, -1, 1, 2), at(-1, 0, 3, 1), at(0, -1, 1, 5),
		at(0, 0, 3, 1), at(0, 0, 1, 5), at(1, 0, 2, 1), at(0, 3, 1, 2), at(2, 0, 1, 1), at(0, 4, 1, 1), at(3, 0, 1, 1), at(0, 5, 1, 1),
		at(2, 0, 0, 1), at(0, 4, 1, 0), at(3, 0, 1, 4), at(0, 2, 4, 1),
	}
	for _, far := range []int{math.MinInt, math.MinInt + 1, math.MinInt + 2, -1 << 32, 1 << 32, 1<<32 + 1, math.MaxInt - 1, math.MaxInt} {
		l = append(l,
			at(far, 0, 1, 1), at(0, far, 1, 1), at(0, 0, far, 1), at(0, 0, 1, far), at(1, 0, far, 1), at(0, 1, 1, far),
			at(far, 0, far, 1), at(0, far, 1, far), at(far, 0, math.MaxInt, 1), at(0, far, 1, math.MaxInt), at(far, 0, 1-far, 1), at(0, far, 1, 1-far))
	}
	fine := at(0, 0, 2, 4)
	for _, wrong := range l {
		for _, l := range [][]api.Place{{wrong}, {fine, wrong}, {wrong, fine}, {fine, wrong, fine}, {wrong, wrong}} {
			wantNoCells(t, "a place", l, cols, rows, [2]int64{2, 1})
			wantNoCells(t, "a place without gaps", l, cols, rows, [2]int64{})
		}
		wantNoCells(t, "the last place of 1000", append(slices.Repeat([]api.Place{fine}, 999), wrong), cols, rows, [2]int64{2, 1})
		wantNoCells(t, "a place in no columns", []api.Place{wrong}, nil, rows, [2]int64{2, 1})
		wantNoCells(t, "a place in no rows", []api.Place{wrong}, cols, nil, [2]int64{2, 1})
	}
	wantNoCells(t, "a slot of no columns", each(1, 1), nil, rows, [2]int64{2, 1})
	wantNoCells(t, "a slot of no rows", each(1, 1), cols, nil, [2]int64{2, 1})
	wantNoCells(t, "a slot of neither", each(1, 1), nil, nil, [2]int64{2, 1})
	wantNoCells(t, "columns and rows taken for each other", []api.Place{at(0, 0, 4, 2)}, cols, rows, [2]int64{2, 1})
}

// P10.2: the example of the chapter, and other gutters written out, with those that have no points.
func TestGutters(t *testing.T) {
	wantGutters(t, []int64{5}, []int64{10}, [2]int64{2, 1}, []api.Rect{box(0, 0, 2, 12), box(7, 0, 2, 12), box(2, 0, 5, 1), box(2, 11, 5, 1)})
	wantGutters(t, []int64{5, 7}, []int64{10, 20}, [2]int64{2, 1}, []api.Rect{
		box(0, 0, 2, 33), box(7, 0, 2, 33), box(16, 0, 2, 33),
		box(2, 0, 5, 1), box(9, 0, 7, 1), box(2, 11, 5, 1), box(9, 11, 7, 1), box(2, 32, 5, 1), box(9, 32, 7, 1),
	})
	wantGutters(t, []int64{5, 7}, []int64{10}, [2]int64{0, 1}, []api.Rect{
		box(0, 0, 0, 12), box(5, 0, 0, 12), box(12, 0, 0, 12),
		box(0, 0, 5, 1), box(5, 0, 7, 1), box(0, 11, 5, 1), box(5, 11, 7, 1),
	})
	wantGutters(t, []int64{5, 7}, []int64{10}, [2]int64{2, 0}, []api.Rect{
		box(0, 0, 2, 10), box(7, 0, 2, 10), box(16, 0, 2, 10),
		box(2, 0, 5, 0), box(9, 0, 7, 0), box(2, 10, 5, 0), box(9, 10, 7, 0),
	})
	wantGutters(t, []int64{0}, []int64{0}, [2]int64{2, 1}, []api.Rect{box(0, 0, 2, 2), box(2, 0, 2, 2), box(2, 0, 0, 1), box(2, 1, 0, 1)})
	wantGutters(t, []int64{0}, []int64{0}, [2]int64{2, 0}, []api.Rect{box(0, 0, 2, 0), box(2, 0, 2, 0), box(2, 0, 0, 0), box(2, 0, 0, 0)})
	wantGutters(t, []int64{0}, []int64{0}, [2]int64{0, 1}, []api.Rect{box(0, 0, 0, 2), box(0, 0, 0, 2), box(0, 0, 0, 1), box(0, 1, 0, 1)})
}

// P10.2: there are no gutters without columns, without rows, and without gaps.
func TestNoGutters(t *testing.T) {
	for _, gaps := range [][2]int64{{}, {2, 0}, {0, 1}, {2, 1}, {px, px}} {
		for _, bands := range [][]int64{nil, {}, {5}, {5, 7}} {
			wantGutters(t, nil, bands, gaps, nil)
			wantGutters(t, bands, nil, gaps, nil)
			wantGutters(t, bands, []int64{}, gaps, nil)
		}
	}
	wantGutters(t, []int64{5}, []int64{10}, [2]int64{}, nil)
	wantGutters(t, []int64{5, 7, 0}, []int64{0, 10}, [2]int64{}, nil)
}

// cellOf is the rectangle of a place as the chapter words it.
func cellOf(place api.Place, cols []int64, rows []int64, gaps [2]int64) api.Rect {
	return box(startOf(cols, gaps[0], place.Col), startOf(rows, gaps[1], place.Row),
		spanOf(cols, gaps[0], place.Col, place.Cols), spanOf(rows, gaps[1], place.Row, place.Rows))
}

// guttersOf goes along the columns and the rows, and takes each gap that it meets.
func guttersOf(cols []int64, rows []int64, gaps [2]int64) []api.Rect {
	if len(cols) == 0 || len(rows) == 0 || gaps[0] == 0 && gaps[1] == 0 {
		return nil
	}
	high := extentOf(rows, gaps[1])
	l := []api.Rect{box(0, 0, gaps[0], high)}
	x := gaps[0]
	for _, col := range cols {
		l = append(l, box(x+col, 0, gaps[0], high))
		x += col + gaps[0]
	}
	y := int64(0)
	for row := range len(rows) + 1 {
		x := gaps[0]
		for _, col := range cols {
			l = append(l, box(x, y, col, gaps[1]))
			x += col + gaps[0]
		}
		if row < len(rows) {
			y += gaps[1] + rows[row]
		}
	}
	return l
}

// wantTiling reports where cells for all slots and the gutters break P10.3. The rectangles are not more than can be asked for.
func wantTiling(t *testing.T, cols []int64, rows []int64, gaps [2]int64) {
	t.Helper()
	cells, err1 := edges.Cells(each(len(rows), len(cols)), cols, rows, gaps)
	gutters, err2 := edges.Gutters(cols, rows, gaps)
	w, err3 := edges.Extent(cols, gaps[0])
	h, err4 := edges.Extent(rows, gaps[1])
	tiles, err5 := rect.Tiles(box(0, 0, w, h), append(cells, gutters...))
	if !tiles || max(err1, err2, err3, err4, err5) != api.OK {
		t.Errorf("%d, %d, %d: the cells %v and the gutters %v don't tile %d by %d: errors %d", cols, rows, gaps, few(cells), few(gutters), w, h, []api.Errno{err1, err2, err3, err4, err5})
	}
}

// wantNet holds columns and rows to the words of the chapter, with places of all kinds.
func wantNet(t *testing.T, cols []int64, rows []int64, gaps [2]int64) {
	t.Helper()
	var l []api.Place
	for row := range rows {
		for col := range cols {
			for high := range len(rows) - row {
				for wide := range len(cols) - col {
					l = append(l, at(row, col, high+1, wide+1))
				}
			}
		}
	}
	var want []api.Rect
	for _, place := range l {
		want = append(want, cellOf(place, cols, rows, gaps))
	}
	wantCells(t, l, cols, rows, gaps, want)
	wantGutters(t, cols, rows, gaps, guttersOf(cols, rows, gaps))
	wantTiling(t, cols, rows, gaps)
}

// P10.2 and P10.3: all places in columns and rows of many kinds, and their gutters, are as the chapter words it, and cells for all slots tile the extent together with the gutters.
func TestNets(t *testing.T) {
	var n numbers = 2
	for range 400 {
		size := []int64{1, 3, 100, px}[n.below(4)]
		gaps := [2]int64{n.below(size + 1), n.below(size + 1)}
		gaps[n.below(2)] *= n.below(3) // none, as it is, or twice as much
		gaps[0], gaps[1] = min(gaps[0], px), min(gaps[1], px)
		wantNet(t, n.bands(6, size), n.bands(6, size), gaps)
		if t.Failed() {
			return
		}
	}
}

// P10.3: as many rectangles as may be asked for tile the extent: 13 columns and 13 rows have 169 cells, and 196 gutters.
func TestManyTiles(t *testing.T) {
	var n numbers = 3
	for _, gaps := range [][2]int64{{2, 1}, {0, 1}, {2, 0}, {0, 0}, {px, px}} {
		cols, rows := make([]int64, 13), make([]int64, 13)
		for i := range cols {
			cols[i], rows[i] = n.below(px+1), n.below(9)
		}
		wantTiling(t, cols, rows, gaps)
	}
}

// P10.2 and P10.3: as many bands as there may be, as large as they may be, to the last unit.
func TestFarCells(t *testing.T) {
	bands := slices.Repeat([]int64{px - 1}, many)
	for _, gaps := range [][2]int64{{px, px - 3}, {px - 3, px}} {
		x := func(col int64) int64 { return col*(px-1+gaps[0]) + gaps[0] }
		y := func(row int64) int64 { return row*(px-1+gaps[1]) + gaps[1] }
		wantCells(t, []api.Place{at(many-1, many-1, 1, 1), at(many-1, 0, 1, many), at(0, many-1, many, 1), at(0, 0, many, many), at(1, 2, 4999, 7777)}, bands, bands, gaps, []api.Rect{
			box(x(many-1), y(many-1), px-1, px-1),
			box(x(0), y(many-1), x(many)-2*gaps[0], px-1),
			box(x(many-1), y(0), px-1, y(many)-2*gaps[1]),
			box(x(0), y(0), x(many)-2*gaps[0], y(many)-2*gaps[1]),
			box(x(2), y(1), 7777*(px-1)+7776*gaps[0], 4999*(px-1)+4998*gaps[1]),
		})
		wantGutters(t, bands, []int64{px}, gaps, guttersOf(bands, []int64{px}, gaps))
		wantGutters(t, []int64{px}, bands, gaps, guttersOf([]int64{px}, bands, gaps))
	}
	wantNet(t, []int64{px, px - 1, px, 0, 1}, []int64{px - 1, px, 1}, [2]int64{px, px - 1})
}

// P10.2: many gutters, and many places, are no trouble.
func TestManyGutters(t *testing.T) {
	var n numbers = 4
	cols, rows := make([]int64, 700), make([]int64, 600)
	for i := range cols {
		cols[i], rows[i%600] = n.below(100), n.below(100)
	}
	wantGutters(t, cols, rows, [2]int64{2, 1}, guttersOf(cols, rows, [2]int64{2, 1}))
	wantCells(t, slices.Repeat([]api.Place{at(599, 0, 1, 700)}, 200000), cols, rows, [2]int64{2, 1},
		slices.Repeat([]api.Rect{cellOf(at(599, 0, 1, 700), cols, rows, [2]int64{2, 1})}, 200000))
}
