package grid_test

import (
	"math"
	"reflect"
	"slices"
	"testing"

	"purfling/api"
	"purfling/fixup"
	"purfling/grid"
	"purfling/lanes"
	"purfling/tree"
)

// sp is a cell that wants so many columns and rows.
func sp(node int, cols int, rows int) api.Spans {
	return api.Spans{Node: node, Cols: cols, Rows: rows}
}

// rs is rows of cells, each with its columns and its rows; the cells are numbered in order.
func rs(rows ...[][2]int) [][]api.Spans {
	list := make([][]api.Spans, len(rows))
	node := 0
	for i, row := range rows {
		for _, cell := range row {
			list[i] = append(list[i], sp(node, cell[0], cell[1]))
			node++
		}
	}
	return list
}

// row is a row for rs.
func row(cells ...[2]int) [][2]int { return cells }

// ps has a place for each row, column, and numbers of rows and columns; they are numbered in order.
func ps(l ...[4]int) []api.Place {
	var places []api.Place
	for i, p := range l {
		places = append(places, api.Place{Node: i, Row: p[0], Col: p[1], Rows: p[2], Cols: p[3]})
	}
	return places
}

// one is a cell for row, and many are several like it.
var one = [2]int{1, 1}

func many(times int, cols int, rows int) [][2]int {
	return slices.Repeat([][2]int{{cols, rows}}, times)
}

// alone are ends of rows each of which is a run, and same those of one run.
func alone(n int) []int {
	l := make([]int, n)
	for i := range l {
		l[i] = i + 1
	}
	return l
}

func same(n int) []int { return slices.Repeat([]int{n}, n) }

func wantLay(t *testing.T, name string, rows [][]api.Spans, ends []int, want []api.Place, cols int) {
	t.Helper()
	if !grid.Right(rows, ends) {
		t.Errorf("%s: Right = false", name)
	}
	got, n, err := grid.Lay(rows, ends)
	if !slices.Equal(got, want) || n != cols || err != api.OK {
		t.Errorf("%s: Lay = %v, %d, %d, want %v, %d", name, got, n, err, want, cols)
	}
}

// wantWrong holds both to rows of cells that are not valid.
func wantWrong(t *testing.T, name string, rows [][]api.Spans, ends []int) {
	t.Helper()
	if grid.Right(rows, ends) {
		t.Errorf("%s: Right = true", name)
	}
	if got, n, err := grid.Lay(rows, ends); len(got) > 0 || n != 0 || err != api.ErrGrid {
		t.Errorf("%s: Lay = %d places, %d, %d, want error %d", name, len(got), n, err, api.ErrGrid)
	}
}

// wantMany holds both to rows of cells that are valid, but have too many columns.
func wantMany(t *testing.T, name string, rows [][]api.Spans, ends []int) {
	t.Helper()
	if !grid.Right(rows, ends) {
		t.Errorf("%s: Right = false", name)
	}
	if got, n, err := grid.Lay(rows, ends); len(got) > 0 || n != 0 || err != api.ErrMany {
		t.Errorf("%s: Lay = %d places, %d, %d, want error %d", name, len(got), n, err, api.ErrMany)
	}
}

// P7.1, P7.3: the example of the chapter, that of the whole document, and others written out.
func TestLay(t *testing.T) {
	for _, c := range []struct {
		name string
		rows [][]api.Spans
		ends []int
		want []api.Place
		cols int
	}{
		{"no rows", nil, nil, nil, 0},
		{"one row without cells", rs(row()), []int{1}, nil, 0},
		{"three rows without cells", rs(row(), row(), row()), []int{2, 2, 3}, nil, 0},
		{"one cell", rs(row(one)), []int{1}, ps([4]int{0, 0, 1, 1}), 1},
		{"one cell, in the second row", rs(row(), row(one), row()), []int{3, 3, 3}, ps([4]int{1, 0, 1, 1}), 1},
		{"cells side by side", rs(row(one, one, one)), []int{1}, ps([4]int{0, 0, 1, 1}, [4]int{0, 1, 1, 1}, [4]int{0, 2, 1, 1}), 3},
		{"cells side by side, one of two columns", rs(row(one, [2]int{2, 1}, one)), []int{1}, ps([4]int{0, 0, 1, 1}, [4]int{0, 1, 1, 2}, [4]int{0, 3, 1, 1}), 4},
		{"two rows", rs(row(one, one), row(one)), []int{2, 2}, ps([4]int{0, 0, 1, 1}, [4]int{0, 1, 1, 1}, [4]int{1, 0, 1, 1}), 2},
		{"the example", rs(row([2]int{1, 2}, [2]int{2, 1}), row(one)), []int{2, 2}, ps([4]int{0, 0, 2, 1}, [4]int{0, 1, 1, 2}, [4]int{1, 1, 1, 1}), 3},
		{"the first slot of the second row is occupied", rs(row([2]int{1, 2}), row(one)), []int{2, 2}, ps([4]int{0, 0, 2, 1}, [4]int{1, 1, 1, 1}), 2},
		{"the run of the first row ends before", rs(row([2]int{1, 2}), row(one)), []int{1, 2}, ps([4]int{0, 0, 1, 1}, [4]int{1, 0, 1, 1}), 1},
		{"as many rows as there are", rs(row([2]int{1, 0}), row(one), row(one)), []int{3, 3, 3}, ps([4]int{0, 0, 3, 1}, [4]int{1, 1, 1, 1}, [4]int{2, 1, 1, 1}), 2},
		{"as many rows as there are in the run", rs(row([2]int{1, 0}), row(one), row(one)), []int{2, 2, 3}, ps([4]int{0, 0, 2, 1}, [4]int{1, 1, 1, 1}, [4]int{2, 0, 1, 1}), 2},
		{"all rows, from the last one of the run on", rs(row(), row([2]int{1, 0}), row(one)), []int{2, 2, 3}, ps([4]int{1, 0, 1, 1}, [4]int{2, 0, 1, 1}), 1},
		{"a gap of one column", rs(row(one, [2]int{1, 2}), row([2]int{3, 1}, [2]int{2, 1})), []int{2, 2}, ps([4]int{0, 0, 1, 1}, [4]int{0, 1, 2, 1}, [4]int{1, 0, 1, 1}, [4]int{1, 2, 1, 2}), 4},
		{"a gap of two columns, and three are wanted", rs(row([2]int{2, 1}, [2]int{1, 2}), row([2]int{3, 1})), []int{2, 2}, ps([4]int{0, 0, 1, 2}, [4]int{0, 2, 2, 1}, [4]int{1, 0, 1, 2}), 3},
		{"a gap of three columns, and two are wanted", rs(row([2]int{3, 1}, [2]int{1, 2}), row([2]int{2, 1}, [2]int{2, 1}, one)), []int{2, 2}, ps([4]int{0, 0, 1, 3}, [4]int{0, 3, 2, 1}, [4]int{1, 0, 1, 2}, [4]int{1, 2, 1, 1}, [4]int{1, 4, 1, 1}), 5},
		{"two gaps", rs(row([2]int{1, 2}, one, [2]int{2, 2}, one), row(one, one, one)), []int{2, 2}, ps([4]int{0, 0, 2, 1}, [4]int{0, 1, 1, 1}, [4]int{0, 2, 2, 2}, [4]int{0, 4, 1, 1}, [4]int{1, 1, 1, 1}, [4]int{1, 4, 1, 1}, [4]int{1, 5, 1, 1}), 6},
		{"cells of different heights end in one row", rs(row([2]int{1, 3}, one), row([2]int{1, 2}), row(one), row(one, one)), []int{4, 4, 4, 4}, ps([4]int{0, 0, 3, 1}, [4]int{0, 1, 1, 1}, [4]int{1, 1, 2, 1}, [4]int{2, 2, 1, 1}, [4]int{3, 0, 1, 1}, [4]int{3, 1, 1, 1}), 3},
		{"a row all of whose slots are occupied", rs(row([2]int{2, 3}, [2]int{1, 2}), row(), row(one)), []int{3, 3, 3}, ps([4]int{0, 0, 3, 2}, [4]int{0, 2, 2, 1}, [4]int{2, 2, 1, 1}), 3},
		{"steps", rs(row([2]int{1, 0}), row([2]int{1, 0}), row([2]int{1, 0})), []int{3, 3, 3}, ps([4]int{0, 0, 3, 1}, [4]int{1, 1, 2, 1}, [4]int{2, 2, 1, 1}), 3},
		{"a wide cell below a high one, and the columns of the former are counted", rs(row([2]int{1, 2}), row([2]int{5, 1})), []int{2, 2}, ps([4]int{0, 0, 2, 1}, [4]int{1, 1, 1, 5}), 6},
		{"ends that go back", rs(row([2]int{1, 0}, [2]int{1, 2}), row([2]int{1, 0}), row(one)), []int{3, 2, 3}, ps([4]int{0, 0, 3, 1}, [4]int{0, 1, 2, 1}, [4]int{1, 2, 1, 1}, [4]int{2, 1, 1, 1}), 3},
		{"spans as great as they may be", rs(row([2]int{1000, 1000}), row(one)), []int{2, 2}, ps([4]int{0, 0, 2, 1000}, [4]int{1, 1000, 1, 1}), 1001},
	} {
		wantLay(t, c.name, c.rows, c.ends, c.want, c.cols)
	}
}

// P7.1: a place has the Node of its cell, whatever that is.
func TestNodes(t *testing.T) {
	rows := [][]api.Spans{{sp(7, 1, 1), sp(7, 1, 1)}, {sp(-1, 1, 1), sp(math.MaxInt, 1, 1), sp(math.MinInt, 1, 1)}}
	wantLay(t, "nodes", rows, []int{1, 2}, []api.Place{{Node: 7, Rows: 1, Cols: 1}, {Node: 7, Col: 1, Rows: 1, Cols: 1}, {Node: -1, Row: 1, Rows: 1, Cols: 1}, {Node: math.MaxInt, Row: 1, Col: 1, Rows: 1, Cols: 1}, {Node: math.MinInt, Row: 1, Col: 2, Rows: 1, Cols: 1}}, 3)
}

// P7.1: each bound, from both sides.
func TestWrongRows(t *testing.T) {
	two := rs(row(one), row(one))
	for _, ends := range [][]int{{1, 2}, {2, 2}} {
		if !grid.Right(two, ends) {
			t.Errorf("Right with the ends %v = false", ends)
		}
	}
	for _, ends := range [][]int{nil, {2}, {1}, {1, 2, 3}, {2, 2, 2}, {0, 2}, {-1, 2}, {3, 2}, {1, 1}, {2, 1}, {1, 0}, {1, 3}, {2, 3}, {1, -2}, {math.MaxInt, 2}, {math.MinInt, 2}, {2, math.MaxInt}, {2, math.MinInt}, {1<<32 + 1, 2}} {
		wantWrong(t, "ends", two, ends)
		wantWrong(t, "ends of rows without cells", make([][]api.Spans, 2), ends)
	}
	wantWrong(t, "an end of no row", nil, []int{0})
	wantWrong(t, "an end of no row", [][]api.Spans{}, []int{1})
	for _, n := range []int{0, -1, -2, -1000, 1001, 1002, 1 << 32, 1<<32 + 1, math.MaxInt, math.MinInt} {
		for at := range 3 {
			rows := rs(row(one, one), row(one))
			rows[at/2][at%2].Cols = n
			wantWrong(t, "columns of a cell", rows, []int{1, 2})
			if n == 0 {
				continue
			}
			rows = rs(row(one, one), row(one))
			rows[at/2][at%2].Rows = n
			wantWrong(t, "rows of a cell", rows, []int{1, 2})
		}
	}
	for _, n := range []int{1, 2, 999, 1000} {
		wantLay(t, "columns of a cell", rs(row([2]int{n, 1})), []int{1}, ps([4]int{0, 0, 1, n}), n)
		wantLay(t, "rows of a cell", rs(row([2]int{1, n})), []int{1}, ps([4]int{0, 0, 1, 1}), 1)
	}
	wantWrong(t, "a wrong cell behind too many", rs(append(many(10001, 1, 1), [2]int{0, 1})), []int{1})
	wantWrong(t, "a wrong cell in a row behind too many", rs(many(11, 1000, 1), row([2]int{1, 1001})), []int{1, 2})
	wantWrong(t, "a wrong end behind too many", rs(many(11, 1000, 1), row()), []int{1, 3})
}

// P7.1: 10000 columns, and one more, however they come about.
func TestMostCols(t *testing.T) {
	for _, c := range []struct {
		name string
		most [][]api.Spans
		ends []int
		more [][]api.Spans
	}{
		{"cells of one column", rs(many(10000, 1, 1)), []int{1}, rs(many(10001, 1, 1))},
		{"cells of 1000 columns", rs(many(10, 1000, 1)), []int{1}, rs(append(many(10, 1000, 1), one))},
		{"a last cell that is too wide", rs(append(many(9, 1000, 1), [2]int{1000, 1})), []int{1}, rs(append(many(9, 1000, 1), one, [2]int{1000, 1}))},
		{"the second row is the widest", rs(row(one), many(10000, 1, 1)), []int{1, 2}, rs(row(one), many(10001, 1, 1))},
		{"the first row is the widest", rs(many(10000, 1, 1), row(one)), []int{1, 2}, rs(many(10001, 1, 1), row(one))},
		{"columns are occupied from above", rs(many(9, 1000, 2), many(1000, 1, 1)), []int{2, 2}, rs(many(9, 1000, 2), many(1001, 1, 1))},
		{"a gap, and what is behind it", rs(append(many(9, 1000, 1), [2]int{999, 2}), append(many(9, 1000, 1), one)), []int{2, 2}, rs(append(many(9, 1000, 1), [2]int{999, 2}), append(many(9, 1000, 1), one, one))},
	} {
		if !grid.Right(c.most, c.ends) {
			t.Errorf("%s: Right = false", c.name)
		}
		places, n, err := grid.Lay(c.most, c.ends)
		if len(places) != len(slices.Concat(c.most...)) || n != 10000 || err != api.OK {
			t.Errorf("%s: Lay = %d places, %d, %d, want 10000 columns", c.name, len(places), n, err)
		}
		wantMany(t, c.name, c.more, c.ends)
	}
	wantMany(t, "a million cells", rs(many(1000000, 1000, 0)), []int{1})
	wide := rs(many(10, 1000, 0), row(one))
	wantMany(t, "no slot is free", wide, []int{2, 2})
	if places, n, err := grid.Lay(wide, []int{1, 2}); len(places) != 11 || places[10] != (api.Place{Node: 10, Row: 1, Rows: 1, Cols: 1}) || n != 10000 || err != api.OK {
		t.Errorf("all slots are free again: Lay = %v, %d, %d", places, n, err)
	}
}

// P7.1: 65536 rows, and one more.
func TestMostRows(t *testing.T) {
	rows := slices.Repeat([][]api.Spans{{sp(3, 1, 1)}}, 65537)
	wantWrong(t, "65537 rows", rows, alone(65537))
	wantWrong(t, "65537 rows of one run", rows, same(65537))
	wantWrong(t, "65537 rows without cells", make([][]api.Spans, 65537), alone(65537))
	wantWrong(t, "65536 rows and 65537 ends", rows[:65536], alone(65537))
	wantWrong(t, "65536 rows and 65535 ends", rows[:65536], alone(65535))
	for _, ends := range [][]int{alone(65536), same(65536)} {
		places, n, err := grid.Lay(rows[:65536], ends)
		if !grid.Right(rows[:65536], ends) || len(places) != 65536 || n != 1 || err != api.OK || places[65535] != (api.Place{Node: 3, Row: 65535, Rows: 1, Cols: 1}) {
			t.Errorf("65536 rows: Lay = %d places, %d, %d", len(places), n, err)
		}
		wantLay(t, "65536 rows without cells", make([][]api.Spans, 65536), ends, nil, 0)
	}
}

// P7.1, P7.3: hundreds of millions of slots are no more work than their cells.
func TestGreatGrids(t *testing.T) {
	rows := slices.Repeat([][]api.Spans{{sp(1, 1000, 1)}}, 65536)
	rows[0] = endless(9, sp(0, 1000, 0), sp(1, 1000, 1))
	places, n, err := grid.Lay(rows, same(65536))
	if len(places) != 65545 || n != 10000 || err != api.OK || places[8] != (api.Place{Col: 8000, Rows: 65536, Cols: 1000}) || places[65544] != (api.Place{Node: 1, Row: 65535, Col: 9000, Rows: 1, Cols: 1000}) {
		t.Errorf("nine high cells: Lay = %d places, %d, %d", len(places), n, err)
	}
	rows[0] = endless(9999, sp(0, 1, 0), sp(1, 1000, 0))
	wantMany(t, "9999 high cells, and one of 1000 columns", rows, same(65536))
	rows[0] = endless(9000, sp(0, 1, 0), sp(1, 999, 1))
	places, n, err = grid.Lay(rows, same(65536))
	if len(places) != 74536 || n != 10000 || err != api.OK || places[74535] != (api.Place{Node: 1, Row: 65535, Col: 9000, Rows: 1, Cols: 1000}) {
		t.Errorf("9000 high cells: Lay = %d places, %d, %d", len(places), n, err)
	}
	steps := slices.Repeat([][]api.Spans{{sp(5, 1, 1000)}}, 65536)
	places, n, err = grid.Lay(steps, same(65536))
	if len(places) != 65536 || n != 1000 || err != api.OK || places[65535] != (api.Place{Node: 5, Row: 65535, Col: 535, Rows: 1, Cols: 1}) {
		t.Errorf("steps of 1000 rows: Lay = %d places, %d, %d", len(places), n, err)
	}
	wantMany(t, "steps to the end", slices.Repeat([][]api.Spans{{sp(5, 1, 0)}}, 65536), same(65536))
}

// endless is a row of so many cells that all reach to its end, and another one.
func endless(times int, cell api.Spans, last api.Spans) []api.Spans {
	return append(slices.Repeat([]api.Spans{cell}, times), last)
}

// layByWords marks every slot, and asks one after the other whether it is free.
func layByWords(rows [][]api.Spans, ends []int) ([]api.Place, int) {
	var places []api.Place
	occupied := map[[2]int]bool{}
	cols := 0
	for r, list := range rows {
		col := 0
		for _, cell := range list {
			for occupied[[2]int{r, col}] {
				col++
			}
			place := api.Place{Node: cell.Node, Row: r, Col: col}
			for place.Cols < cell.Cols && !occupied[[2]int{r, col}] {
				place.Cols++
				col++
			}
			for (place.Rows < cell.Rows || cell.Rows == 0) && r+place.Rows < ends[r] {
				for at := place.Col; at < col; at++ {
					occupied[[2]int{r + place.Rows, at}] = true
				}
				place.Rows++
			}
			places = append(places, place)
			cols = max(cols, col)
		}
	}
	return places, cols
}

// wantProperties holds places to P7.3 and P7.1 without placing anything: by what belongs to the cells before.
func wantProperties(t *testing.T, rows [][]api.Spans, ends []int, places []api.Place, cols int) {
	t.Helper()
	occupied := map[[2]int]bool{}
	next, greatest := 0, 0
	for r, list := range rows {
		col := 0
		for _, cell := range list {
			p := places[next]
			next++
			if p.Node != cell.Node || p.Row != r || p.Rows < 1 || p.Cols < 1 || p.Col < col || p.Row+p.Rows > ends[r] {
				t.Fatalf("%v, %v: the place %v of the cell %v", rows, ends, p, cell)
			}
			for ; col < p.Col; col++ {
				if !occupied[[2]int{r, col}] {
					t.Fatalf("%v, %v: %v is not at the first free slot", rows, ends, p)
				}
			}
			for i := range p.Rows * p.Cols {
				slot := [2]int{r + i/p.Cols, col + i%p.Cols}
				if occupied[slot] {
					t.Fatalf("%v, %v: the slot %v of %v is not free", rows, ends, slot, p)
				}
				occupied[slot] = true
			}
			col += p.Cols
			if p.Cols > cell.Cols || p.Cols < cell.Cols && !occupied[[2]int{r, col}] {
				t.Fatalf("%v, %v: the columns of %v", rows, ends, p)
			}
			if p.Rows != min(cell.Rows, ends[r]-r) && (cell.Rows != 0 || p.Rows != ends[r]-r) {
				t.Fatalf("%v, %v: the rows of %v", rows, ends, p)
			}
			greatest = max(greatest, col)
		}
	}
	if next != len(places) || cols != greatest {
		t.Fatalf("%v, %v: %d places of %d cells, %d columns of %d", rows, ends, len(places), next, cols, greatest)
	}
}

func wantWords(t *testing.T, rows [][]api.Spans, ends []int) int {
	t.Helper()
	if !grid.Right(rows, ends) {
		t.Fatalf("Right(%v, %v) = false", rows, ends)
	}
	places, cols, err := grid.Lay(rows, ends)
	want, wantCols := layByWords(rows, ends)
	if !slices.Equal(places, want) || cols != wantCols || err != api.OK {
		t.Fatalf("Lay(%v, %v) = %v, %d, %d, want %v, %d", rows, ends, places, cols, err, want, wantCols)
	}
	wantProperties(t, rows, ends, places, cols)
	wantSlots(t, places, len(rows), cols)
	return len(places)
}

// P7.1, P7.3: three rows of up to two cells of one or two columns and none to two rows, with all ends that are valid.
func TestAllSmallGrids(t *testing.T) {
	lists := [][]api.Spans{nil}
	for a := range 6 {
		first := sp(a, 1+a%2, a/2)
		lists = append(lists, []api.Spans{first})
		for b := range 6 {
			lists = append(lists, []api.Spans{first, sp(b, 1+b%2, b/2)})
		}
	}
	for _, first := range lists {
		for _, second := range lists {
			for i, third := range lists {
				if len(third) > 1 && i%5 > 0 {
					continue // what is in the last row is in nobody's way
				}
				for _, ends := range [][]int{{1, 2, 3}, {2, 2, 3}, {3, 2, 3}, {1, 3, 3}, {2, 3, 3}, {3, 3, 3}} {
					wantWords(t, [][]api.Spans{first, second, third}, ends)
				}
			}
		}
	}
}

// numbers are the same in every run, so that what fails once fails again.
type numbers uint64

func (r *numbers) below(n int) int {
	*r = *r*6364136223846793005 + 1442695040888963407
	return int(uint64(*r) >> 33 % uint64(n))
}

// rows are rows of cells with ends, of which many are the ends of runs.
func (r *numbers) rows(most int) ([][]api.Spans, []int) {
	rows := make([][]api.Spans, r.below(most+1))
	ends := make([]int, len(rows))
	wide, high := 1+r.below(6), 1+r.below(7)
	for i := range rows {
		for range r.below(5) {
			rows[i] = append(rows[i], sp(r.below(100), 1+r.below(wide), r.below(high)))
		}
		ends[i] = i + 1 + r.below(len(rows)-i)
	}
	if r.below(2) == 0 {
		for i := len(ends) - 2; i >= 0; i-- {
			ends[i] = []int{i + 1, ends[i+1]}[min(r.below(4), 1)]
		}
	}
	return rows, ends
}

// P7.1, P7.3: rows of cells at random.
func TestRandomRows(t *testing.T) {
	r := numbers(5)
	placed := 0
	for range 6000 {
		rows, ends := r.rows(12)
		placed += wantWords(t, rows, ends)
	}
	if placed < 50000 {
		t.Errorf("only %d cells", placed)
	}
	for range 20 {
		rows, ends := r.rows(200)
		wantWords(t, rows, ends)
	}
}

// n is a node of the kind, with these Kids.
func n(kind int, kids ...int) api.Node { return api.Node{Kind: kind, Kids: kids} }

// c is a cell with these spans.
func c(cols int, rows int, kids ...int) api.Node {
	return api.Node{Kind: api.KCell, Kids: kids, Style: api.Style{ColSpan: cols, RowSpan: rows}}
}

func wantCells(t *testing.T, name string, l []api.Node, at int, want [][]api.Spans, ends []int) {
	t.Helper()
	got, gotEnds, err := grid.Cells(l, at)
	if !slices.EqualFunc(got, want, slices.Equal[[]api.Spans]) || !slices.Equal(gotEnds, ends) || err != api.OK {
		t.Errorf("%s: Cells = %v, %v, %d, want %v, %v", name, got, gotEnds, err, want, ends)
	}
}

// P7.2: the example of the chapter, and others written out.
func TestCells(t *testing.T) {
	wantCells(t, "no rows", []api.Node{n(api.KTable)}, 0, nil, nil)
	wantCells(t, "a row without cells", []api.Node{n(api.KTable, 1), n(api.KRow)}, 0, [][]api.Spans{nil}, []int{1})
	wantCells(t, "the example", []api.Node{n(api.KTable, 1), n(api.KRow, 2, 3), c(0, -2), c(2, 0)}, 0, [][]api.Spans{{sp(2, 1, 1), sp(3, 2, 0)}}, []int{1})
	spans := []api.Node{n(api.KTable, 1), n(api.KRow)}
	var want []api.Spans
	for _, span := range [][4]int{{-1000, -1000, 1, 1}, {-1, -1, 1, 1}, {0, 0, 1, 0}, {1, 1, 1, 1}, {2, 2, 2, 2}, {999, 999, 999, 999}, {1000, 1000, 1000, 1000}, {-5, 7, 1, 7}, {7, -5, 7, 1}} {
		spans[1].Kids = append(spans[1].Kids, len(spans))
		want = append(want, sp(len(spans), span[2], span[3]))
		spans = append(spans, c(span[0], span[1]))
	}
	wantCells(t, "all kinds of spans", spans, 0, [][]api.Spans{want}, []int{1})
	groups := []api.Node{
		n(api.KTable, 1, 2, 3, 4, 5, 6), n(api.KFoot, 7), n(api.KRow, 14, 13), n(api.KRow), n(api.KBody, 9, 8), n(api.KHead, 10, 11), n(api.KRow, 12),
		n(api.KRow, 15), n(api.KRow), n(api.KRow, 16, 17), n(api.KRow, 18), n(api.KRow), c(1, 1), c(1, 2), c(3, 0), c(0, 0), c(2, 1), c(1, 1), c(1, 0),
	}
	wantCells(t, "groups, in the order of the table's rows", groups, 0, [][]api.Spans{
		{sp(18, 1, 0)}, nil, {sp(14, 3, 0), sp(13, 1, 2)}, nil, {sp(16, 2, 1), sp(17, 1, 1)}, nil, {sp(12, 1, 1)}, {sp(15, 1, 0)},
	}, []int{2, 2, 4, 4, 6, 6, 7, 8})
	strays := []api.Node{
		n(api.KTable, 1, 2, 3), n(api.KCell, 4), n(api.KRow, 5, 6, 7, 8, 9), n(api.KCaption, 10), n(api.KText), n(api.KText), c(2, 2), n(api.KRow, 11), c(1, 1, 12), n(api.KCol),
		c(1, 1), c(1, 1), n(api.KTable, 13), n(api.KRow, 14), c(4, 1),
	}
	wantCells(t, "other Kids, cells in those, and a table in a cell", strays, 0, [][]api.Spans{{sp(6, 2, 2), sp(8, 1, 1)}}, []int{1})
	wantCells(t, "the table in the cell", strays, 12, [][]api.Spans{{sp(14, 4, 1)}}, []int{1})
}

// P7.2: all that lanes.Rows returns an error for, and nothing beside it.
func TestCellsOfNoTable(t *testing.T) {
	l := []api.Node{n(api.KBlock, 1, 2), n(api.KText), n(api.KTable, 3), n(api.KRow, 4), c(1, 1)}
	deep := slices.Repeat([]api.Node{n(api.KTable)}, 65)
	for i := range 64 {
		deep[i].Kids = []int{i + 1}
	}
	for _, w := range []struct {
		name string
		l    []api.Node
		at   int
		err  api.Errno
	}{
		{"no nodes", nil, 0, api.ErrMany},
		{"too many nodes", make([]api.Node, 65537), 0, api.ErrMany},
		{"too many columns of a cell", []api.Node{n(api.KTable, 1), n(api.KRow, 2), c(1001, 1)}, 0, api.ErrKind},
		{"too few rows of a cell", []api.Node{n(api.KTable, 1), n(api.KRow, 2), c(1, -1001)}, 0, api.ErrKind},
		{"no kind", []api.Node{n(11)}, 0, api.ErrKind},
		{"a Kid that is none", []api.Node{n(api.KTable, 1), n(api.KRow, 2)}, 0, api.ErrLink},
		{"a cell twice", []api.Node{n(api.KTable, 1), n(api.KRow, 2, 2), c(1, 1)}, 0, api.ErrCycle},
		{"too deep", deep, 0, api.ErrDeep},
		{"a wrong page, and no node", deep, -1, api.ErrDeep},
		{"a block", l, 0, api.ErrArg},
		{"a text", l, 1, api.ErrArg},
		{"a row", l, 3, api.ErrArg},
		{"a cell", l, 4, api.ErrArg},
		{"beyond the end", l, 5, api.ErrArg},
		{"before the beginning", l, -1, api.ErrArg},
		{"far beyond the end", l, math.MaxInt, api.ErrArg},
		{"far before the beginning", l, math.MinInt, api.ErrArg},
	} {
		if _, err := lanes.Rows(w.l, w.at); err != w.err {
			t.Errorf("%s: Rows returns %d, want %d", w.name, err, w.err)
		}
		if got, ends, err := grid.Cells(w.l, w.at); len(got) > 0 || len(ends) > 0 || err != w.err {
			t.Errorf("%s: Cells = %v, %v, %d, want error %d", w.name, got, ends, err, w.err)
		}
	}
	wantCells(t, "the table", l, 2, [][]api.Spans{{sp(4, 1, 1)}}, []int{1})
}

// cellsByWords asks lanes for the rows, and the computed page for the spans.
func cellsByWords(l []api.Node, at int) ([][]api.Spans, []int) {
	rows, _ := lanes.Rows(l, at)
	computed, _ := tree.Computed(l)
	list := make([][]api.Spans, len(rows))
	for i, row := range rows {
		for _, kid := range computed[row.Node].Kids {
			if node := computed[kid]; node.Kind == api.KCell {
				list[i] = append(list[i], sp(kid, node.Style.ColSpan, node.Style.RowSpan))
			}
		}
	}
	return list, lanes.Ends(rows)
}

// grown is a page with a table whose nodes are mostly rows and cells, some of them where they are not permitted.
func (r *numbers) grown(length int) []api.Node {
	l := []api.Node{n(api.KTable)}
	for at := 1; at < length; at++ {
		parent := at - 1 - r.below(min(at, 9))
		kinds := map[int][]int{
			api.KTable: {api.KRow, api.KRow, api.KHead, api.KBody, api.KFoot, api.KCell},
			api.KHead:  {api.KRow}, api.KBody: {api.KRow, api.KRow, api.KCell}, api.KFoot: {api.KRow},
			api.KRow: {api.KCell, api.KCell, api.KCell, api.KCell, api.KBlock}, api.KCell: {api.KBlock, api.KTable},
		}[l[parent].Kind]
		if len(kinds) == 0 {
			kinds = []int{api.KCell, api.KTable, api.KRow}
		}
		node := c(r.below(6)-1, r.below(6)-1)
		node.Kind = kinds[r.below(len(kinds))]
		l[parent].Kids = slices.Insert(l[parent].Kids, r.below(len(l[parent].Kids)+1), at)
		l = append(l, node)
	}
	return l
}

// P7.1 to P7.3: the tables of pages at random, as they are, and when they are fixed, from their nodes to their slots.
func TestRandomPages(t *testing.T) {
	r := numbers(3)
	placed := 0
	for range 1500 {
		l := r.grown(1 + r.below(40))
		fixed, _ := fixup.Fix(l)
		for _, page := range [][]api.Node{l, fixed} {
			if _, err := tree.Check(page); err != api.OK {
				t.Fatalf("Check(%v) returns %d", page, err)
			}
			for at, node := range page {
				if node.Kind != api.KTable {
					continue
				}
				rows, ends := cellsByWords(page, at)
				wantCells(t, "a page by words", page, at, rows, ends)
				placed += wantWords(t, rows, ends)
			}
		}
	}
	if placed < 10000 {
		t.Errorf("only %d cells", placed)
	}
}

// P7.2: as many cells as a page has nodes for, which Lay takes as they are.
func TestMostCells(t *testing.T) {
	l := []api.Node{n(api.KTable, 1, 2), n(api.KRow), n(api.KRow)}
	for at := 3; at < 65536; at++ {
		l[1+at%2].Kids = append(l[1+at%2].Kids, at)
		l = append(l, c(-1, -1))
	}
	rows, ends, err := grid.Cells(l, 0)
	if len(rows) != 2 || len(rows[0]) != 32766 || len(rows[1]) != 32767 || rows[1][32766] != sp(65535, 1, 1) || !slices.Equal(ends, []int{2, 2}) || err != api.OK {
		t.Errorf("65533 cells: Cells has %d rows, %v, %d", len(rows), ends, err)
	}
	wantMany(t, "65533 cells", rows, ends)
	rows, ends, err = grid.Cells(l[:20003], 0)
	if len(rows) > 0 || len(ends) > 0 || err != api.ErrLink {
		t.Errorf("a page that is cut off: Cells has %d rows, %v, %d", len(rows), ends, err)
	}
	high := []api.Node{n(api.KTable)}
	for at := 1; at < 65536; at++ {
		high[0].Kids = append(high[0].Kids, at)
		high = append(high, n(api.KRow))
	}
	rows, ends, err = grid.Cells(high, 0)
	if len(rows) != 65535 || !slices.Equal(ends, same(65535)) || err != api.OK {
		t.Errorf("65535 rows: Cells has %d rows, %d ends, %d", len(rows), len(ends), err)
	}
	wantLay(t, "65535 rows", rows, ends, nil, 0)
}

// roomy is the list with spare capacity, and something in it.
func roomy[E any](l []E, spare E) []E {
	return append(slices.Clone(l), spare, spare, spare)[:len(l)]
}

// all is the list with what is in its spare capacity.
func all[E any](l []E) []E { return slices.Clone(l[:cap(l)]) }

// P7.1: rows and ends are left as they are, and their spare capacity, too, with an error or without.
func TestRowsAreNotChanged(t *testing.T) {
	r := numbers(17)
	for i := range 300 {
		rows, ends := r.rows(8)
		if i%3 == 1 && len(ends) > 0 {
			ends[len(ends)-1]++
		}
		if i%3 == 2 {
			rows, ends = append(rows, endless(10, sp(0, 1000, 1), sp(0, 1, 1))), append(ends, len(ends)+1)
		}
		for at, row := range rows {
			rows[at] = roomy(row, sp(77, 78, 79))
		}
		rows, ends = roomy(rows, []api.Spans{sp(80, 81, 82)}), roomy(ends, 83)
		before, beforeEnds := all(rows), all(ends)
		for at, row := range before {
			before[at] = all(row)
		}
		grid.Right(rows, ends)
		grid.Lay(rows, ends)
		after := all(rows)
		for at, row := range after {
			after[at] = all(row)
		}
		if !reflect.DeepEqual(after, before) || !slices.Equal(all(ends), beforeEnds) {
			t.Fatalf("%v became %v, %v became %v", before, after, beforeEnds, all(ends))
		}
	}
}

// P7.2: a page is left as it is.
func TestPagesAreNotChanged(t *testing.T) {
	r := numbers(23)
	for range 200 {
		l := r.grown(20)
		for at, node := range l {
			l[at].Kids = roomy(node.Kids, 77)
		}
		l = roomy(l, api.Node{High: 81})
		before := all(l)
		for at, node := range before {
			before[at].Kids = all(node.Kids)
		}
		for at := -1; at <= len(l); at++ {
			grid.Cells(l, at)
		}
		after := all(l)
		for at, node := range after {
			after[at].Kids = all(node.Kids)
		}
		if !reflect.DeepEqual(after, before) {
			t.Fatalf("%v became %v", before, after)
		}
	}
}

// wreck writes to all that a list has, beyond its end, too.
func wreck[E any](l []E, with E) {
	for i := range l[:cap(l)] {
		l[:cap(l)][i] = with
	}
}

// P7.1, P7.2: what one call has returned is no part of what it was given, nor of what another one returns, nor is one list of it a part of another one.
func TestAnswersAreNewMemory(t *testing.T) {
	l := []api.Node{n(api.KTable, 1, 2, 3), n(api.KRow, 4, 5), n(api.KRow, 6), n(api.KRow, 7, 8), c(1, 2), c(2, 1), c(1, 1), c(1, 1), c(1, 0)}
	want := [][]api.Spans{{sp(4, 1, 2), sp(5, 2, 1)}, {sp(6, 1, 1)}, {sp(7, 1, 1), sp(8, 1, 0)}}
	rows, ends, _ := grid.Cells(l, 0)
	wreck(ends, 94)
	wreck(rows[0], sp(95, 96, 97))
	wreck(rows[2], sp(95, 96, 97))
	if !slices.Equal(rows[1], want[1]) {
		t.Errorf("the second row became %v", rows[1])
	}
	wreck(rows, nil)
	wantCells(t, "again", l, 0, want, []int{3, 3, 3})
	rows, ends, _ = grid.Cells(l, 0)
	for _, node := range l {
		wreck(node.Kids, 0)
	}
	wreck(l, api.Node{})
	if !slices.EqualFunc(rows, want, slices.Equal[[]api.Spans]) || !slices.Equal(ends, []int{3, 3, 3}) {
		t.Errorf("writing to the page, the rows became %v, the ends %v", rows, ends)
	}
	places, _, _ := grid.Lay(rows, ends)
	wanted := slices.Clone(places)
	again, _, _ := grid.Lay(rows, ends)
	wreck(again, api.Place{Node: 98})
	wreck(rows, nil)
	wreck(ends, 0)
	if !slices.Equal(places, wanted) {
		t.Errorf("the places became %v", places)
	}
	wantLay(t, "again", want, []int{3, 3, 3}, wanted, 3)
}
