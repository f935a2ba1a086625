package grid_test

import (
	"math"
	"slices"
	"testing"

	"purfling/api"
	"purfling/grid"
)

// slotsByWords asks each place, for each slot, whether that is among its own.
func slotsByWords(places []api.Place, rows int, cols int) ([][]int, [][2]int) {
	list := make([][]int, rows)
	var empty [][2]int
	for row := range rows {
		for col := range cols {
			at := slices.IndexFunc(places, func(p api.Place) bool {
				return p.Row <= row && row < p.Row+p.Rows && p.Col <= col && col < p.Col+p.Cols
			})
			list[row] = append(list[row], at)
			if at < 0 {
				empty = append(empty, [2]int{row, col})
			}
		}
	}
	return list, empty
}

// wantSlots holds both to the chapter's words, for places that are right.
func wantSlots(t *testing.T, places []api.Place, rows int, cols int) {
	t.Helper()
	want, empty := slotsByWords(places, rows, cols)
	got, err := grid.Slots(places, rows, cols)
	if !slices.EqualFunc(got, want, slices.Equal[[]int]) || err != api.OK {
		t.Fatalf("Slots(%v, %d, %d) = %v, %d, want %v", places, rows, cols, got, err, want)
	}
	gaps, err := grid.Empty(places, rows, cols)
	if !slices.Equal(gaps, empty) || err != api.OK {
		t.Fatalf("Empty(%v, %d, %d) = %v, %d, want %v", places, rows, cols, gaps, err, empty)
	}
}

// wantNoSlots holds both to ErrGrid, and to nothing beside it.
func wantNoSlots(t *testing.T, name string, places []api.Place, rows int, cols int) {
	t.Helper()
	if got, err := grid.Slots(places, rows, cols); len(got) > 0 || err != api.ErrGrid {
		t.Errorf("%s: Slots(%d, %d) = %d rows, %d, want error %d", name, rows, cols, len(got), err, api.ErrGrid)
	}
	if got, err := grid.Empty(places, rows, cols); len(got) > 0 || err != api.ErrGrid {
		t.Errorf("%s: Empty(%d, %d) = %d slots, %d, want error %d", name, rows, cols, len(got), err, api.ErrGrid)
	}
}

// P7.2: slots written out.
func TestSlots(t *testing.T) {
	for _, c := range []struct {
		name       string
		places     []api.Place
		rows, cols int
		want       [][]int
		empty      [][2]int
	}{
		{"nothing", nil, 0, 0, nil, nil},
		{"columns alone", nil, 0, 3, nil, nil},
		{"rows alone", nil, 2, 0, [][]int{{}, {}}, nil},
		{"no places", nil, 2, 2, [][]int{{-1, -1}, {-1, -1}}, [][2]int{{0, 0}, {0, 1}, {1, 0}, {1, 1}}},
		{"one slot", ps([4]int{0, 0, 1, 1}), 1, 1, [][]int{{0}}, nil},
		{"one place has all", ps([4]int{0, 0, 2, 3}), 2, 3, [][]int{{0, 0, 0}, {0, 0, 0}}, nil},
		{"the example", ps([4]int{0, 0, 2, 1}, [4]int{0, 1, 1, 2}, [4]int{1, 1, 1, 1}), 2, 3, [][]int{{0, 1, 1}, {0, 2, -1}}, [][2]int{{1, 2}}},
		{"the example, and more rows and columns", ps([4]int{0, 0, 2, 1}, [4]int{0, 1, 1, 2}, [4]int{1, 1, 1, 1}), 3, 4, [][]int{{0, 1, 1, -1}, {0, 2, -1, -1}, {-1, -1, -1, -1}}, [][2]int{{0, 3}, {1, 2}, {1, 3}, {2, 0}, {2, 1}, {2, 2}, {2, 3}}},
		{"places in no order", ps([4]int{1, 1, 1, 1}, [4]int{0, 1, 1, 2}, [4]int{0, 0, 2, 1}), 2, 3, [][]int{{2, 1, 1}, {2, 0, -1}}, [][2]int{{1, 2}}},
		{"a place between empty slots", ps([4]int{1, 1, 1, 2}), 3, 4, [][]int{{-1, -1, -1, -1}, {-1, 0, 0, -1}, {-1, -1, -1, -1}}, [][2]int{{0, 0}, {0, 1}, {0, 2}, {0, 3}, {1, 0}, {1, 3}, {2, 0}, {2, 1}, {2, 2}, {2, 3}}},
		{"a ring", ps([4]int{0, 0, 1, 2}, [4]int{0, 2, 2, 1}, [4]int{2, 1, 1, 2}, [4]int{1, 0, 2, 1}), 3, 3, [][]int{{0, 0, 1}, {3, -1, 1}, {3, 2, 2}}, [][2]int{{1, 1}}},
	} {
		got, err := grid.Slots(c.places, c.rows, c.cols)
		if !slices.EqualFunc(got, c.want, slices.Equal[[]int]) || err != api.OK {
			t.Errorf("%s: Slots = %v, %d, want %v", c.name, got, err, c.want)
		}
		empty, err := grid.Empty(c.places, c.rows, c.cols)
		if !slices.Equal(empty, c.empty) || err != api.OK {
			t.Errorf("%s: Empty = %v, %d, want %v", c.name, empty, err, c.empty)
		}
	}
	same := []api.Place{{Node: 9, Rows: 1, Cols: 1}, {Node: 9, Col: 1, Rows: 1, Cols: 1}, {Node: -4, Col: 2, Rows: 1, Cols: 1}}
	if got, err := grid.Slots(same, 1, 3); err != api.OK || !slices.Equal(got[0], []int{0, 1, 2}) {
		t.Errorf("Slots tells the indexes of places, not their nodes: %v, %d", got, err)
	}
}

// P7.2: the bounds of rows and columns, and of their product.
func TestSizesOfGrids(t *testing.T) {
	for _, size := range [][2]int{{65536, 0}, {65536, 1}, {65536, 15}, {0, 10000}, {1, 10000}, {100, 10000}, {1000, 1000}, {999, 1001}, {62500, 16}} {
		rows, cols := size[0], size[1]
		got, err := grid.Slots(nil, rows, cols)
		wrong := slices.ContainsFunc(got, func(l []int) bool {
			return len(l) != cols || slices.ContainsFunc(l, func(at int) bool { return at != -1 })
		})
		if len(got) != rows || err != api.OK || wrong {
			t.Errorf("Slots(nil, %d, %d) = %d rows, %d", rows, cols, len(got), err)
		}
		empty, err := grid.Empty(nil, rows, cols)
		if len(empty) != rows*cols || err != api.OK || len(empty) > 0 && empty[len(empty)-1] != [2]int{rows - 1, cols - 1} {
			t.Errorf("Empty(nil, %d, %d) = %d slots, %d", rows, cols, len(empty), err)
		}
	}
	for _, n := range []int{-1, -2, -1000, -65536, 65537, 65538, 1 << 32, 1<<32 + 1, 1 << 62, math.MaxInt, math.MinInt} {
		for _, other := range []int{0, 1, 5, -1, n} {
			wantNoSlots(t, "rows", nil, n, other)
			wantNoSlots(t, "columns", nil, other, n)
		}
	}
	for _, cols := range []int{10001, 10002, 65536} {
		for _, rows := range []int{0, 1, 2} {
			wantNoSlots(t, "columns", nil, rows, cols)
		}
	}
	for _, size := range [][2]int{{65536, 16}, {65536, 10000}, {101, 10000}, {1000, 1001}, {1001, 1000}, {62501, 16}, {9901, 101}} {
		wantNoSlots(t, "the product", nil, size[0], size[1])
		wantNoSlots(t, "the product", ps([4]int{0, 0, 1, 1}), size[0], size[1])
	}
}

// P7.2: a place with each number that is wrong, alone and behind one that is right.
func TestWrongPlaces(t *testing.T) {
	first := [4]int{0, 0, 1, 1}
	for _, wrong := range [][4]int{
		{1, 1, 0, 1}, {1, 1, 1, 0}, {1, 1, 0, 0}, {1, 1, -1, 1}, {1, 1, 1, -1}, {1, 1, math.MinInt, 1}, {1, 1, 1, math.MinInt},
		{-1, 1, 1, 1}, {1, -1, 1, 1}, {-1, 1, 2, 1}, {1, -1, 1, 2}, {-1, -1, 3, 3}, {math.MinInt, 1, 1, 1}, {1, math.MinInt, 1, 1},
		{3, 1, 1, 1}, {1, 4, 1, 1}, {3, 1, 0, 1}, {1, 4, 1, 0}, {4, 1, 1, 1}, {1, 5, 1, 1}, {4, 1, -1, 1}, {1, 5, 1, -1},
		{2, 1, 2, 1}, {1, 3, 1, 2}, {1, 1, 3, 1}, {1, 1, 1, 4}, {0, 1, 4, 1}, {1, 0, 1, 5},
		{1, 1, math.MaxInt, 1}, {1, 1, 1, math.MaxInt}, {math.MaxInt, 1, 1, 1}, {1, math.MaxInt, 1, 1},
		{math.MaxInt, 1, math.MaxInt, 1}, {1, math.MaxInt, 1, math.MaxInt}, {math.MinInt, 1, math.MinInt, 1}, {1, math.MinInt, 1, math.MinInt},
		{math.MinInt, 1, math.MaxInt, 1}, {1, math.MinInt, 1, math.MaxInt}, {math.MaxInt, 1, math.MinInt, 1}, {1, math.MaxInt, 1, math.MinInt},
		{-5, 1, math.MinInt + 7, 1}, {1, -5, 1, math.MinInt + 7}, {1<<32 + 1, 1, 1, 1}, {1, 1<<32 + 1, 1, 1}, {1, 1, 1<<32 + 1, 1}, {1, 1, 1, 1<<32 + 1},
	} {
		wantNoSlots(t, "alone", ps(wrong), 3, 4)
		wantNoSlots(t, "behind another one", ps(first, wrong), 3, 4)
		wantNoSlots(t, "before another one", ps(wrong, first), 3, 4)
	}
	for _, right := range [][4]int{{1, 1, 1, 1}, {2, 3, 1, 1}, {1, 1, 2, 3}, {0, 1, 3, 3}, {1, 0, 2, 4}, {0, 3, 3, 1}, {2, 0, 1, 4}} {
		wantSlots(t, ps(right), 3, 4)
		wantSlots(t, ps(first, right), 3, 4)
	}
	for _, size := range [][2]int{{0, 0}, {0, 4}, {3, 0}} {
		wantNoSlots(t, "a place where there are no slots", ps(first), size[0], size[1])
		wantNoSlots(t, "a place without slots where there are none", ps([4]int{0, 0, 0, 0}), size[0], size[1])
	}
}

// P7.2: all pairs of places in three rows and three columns: right, unless they share a slot.
func TestPairsOfPlaces(t *testing.T) {
	var l [][4]int
	for i := range 3 * 3 * 3 * 3 {
		p := [4]int{i % 3, i / 3 % 3, 1 + i/9%3, 1 + i/27}
		if p[0]+p[2] <= 3 && p[1]+p[3] <= 3 {
			l = append(l, p)
		}
	}
	if len(l) != 36 {
		t.Fatalf("%d places", len(l))
	}
	for _, a := range l {
		for _, b := range l {
			apart := a[0]+a[2] <= b[0] || b[0]+b[2] <= a[0] || a[1]+a[3] <= b[1] || b[1]+b[3] <= a[1]
			if apart {
				wantSlots(t, ps(a, b), 3, 3)
			} else {
				wantNoSlots(t, "two places with one slot", ps(a, b), 3, 3)
			}
		}
	}
	ring := ps([4]int{0, 0, 1, 2}, [4]int{0, 2, 2, 1}, [4]int{2, 1, 1, 2}, [4]int{1, 0, 2, 1})
	for i := range 9 {
		more := append(slices.Clone(ring), api.Place{Row: i / 3, Col: i % 3, Rows: 1, Cols: 1})
		if i == 4 {
			wantSlots(t, more, 3, 3)
		} else {
			wantNoSlots(t, "one place more", more, 3, 3)
		}
	}
}

// P7.2: as many slots as a grid may have, of one place, of a million, and of more than there are.
func TestMostSlots(t *testing.T) {
	got, err := grid.Slots(ps([4]int{0, 0, 1000, 1000}), 1000, 1000)
	if len(got) != 1000 || err != api.OK || slices.ContainsFunc(got, func(l []int) bool { return len(l) != 1000 || slices.Max(l) != 0 || slices.Min(l) != 0 }) {
		t.Errorf("one place of a million slots: %d rows, %d", len(got), err)
	}
	var singles [][4]int
	for i := range 1000000 {
		singles = append(singles, [4]int{i % 100, i / 100, 1, 1})
	}
	places := ps(singles...)
	got, err = grid.Slots(places, 100, 10000)
	if len(got) != 100 || err != api.OK || got[0][0] != 0 || got[99][0] != 99 || got[0][1] != 100 || got[99][9999] != 999999 {
		t.Errorf("a million places: %d rows, %d", len(got), err)
	}
	if empty, err := grid.Empty(places, 100, 10000); len(empty) > 0 || err != api.OK {
		t.Errorf("a million places: %d empty slots, %d", len(empty), err)
	}
	if empty, err := grid.Empty(places[1:], 100, 10000); !slices.Equal(empty, [][2]int{{0, 0}}) || err != api.OK {
		t.Errorf("a million places but one: %v, %d", empty, err)
	}
	wantNoSlots(t, "a million places, and another one", append(places, places[999999]), 100, 10000)
	wantNoSlots(t, "three million places of one slot", slices.Repeat(places[:1], 3000000), 100, 10000)
}

// P7.2: places are left as they are, and their spare capacity, too; what is returned is new memory, each row apart from the others.
func TestSlotsAreNewMemory(t *testing.T) {
	places := roomy(ps([4]int{0, 0, 2, 1}, [4]int{0, 1, 1, 2}, [4]int{1, 1, 1, 1}), api.Place{Node: 77})
	before := all(places)
	want, empty := [][]int{{0, 1, 1, -1}, {0, 2, -1, -1}, {-1, -1, -1, -1}}, [][2]int{{0, 3}, {1, 2}, {1, 3}, {2, 0}, {2, 1}, {2, 2}, {2, 3}}
	for range 2 {
		got, _ := grid.Slots(places, 3, 4)
		for at, row := range got {
			if !slices.Equal(row, want[at]) {
				t.Errorf("row %d is %v, want %v", at, row, want[at])
			}
			wreck(row, 99)
		}
		wreck(got, nil)
		gaps, _ := grid.Empty(places, 3, 4)
		if !slices.Equal(gaps, empty) {
			t.Errorf("Empty = %v, want %v", gaps, empty)
		}
		wreck(gaps, [2]int{98, 97})
	}
	grid.Slots(places, 2, 2)
	grid.Empty(places, 2, 2)
	if !slices.Equal(all(places), before) {
		t.Errorf("%v became %v", before, all(places))
	}
	got, _ := grid.Slots(places, 3, 4)
	wreck(places, api.Place{Node: 96})
	if !slices.EqualFunc(got, want, slices.Equal[[]int]) {
		t.Errorf("writing to the places, the slots became %v", got)
	}
}
