package collapse_test

import (
	"math"
	"slices"
	"testing"

	"purfling/api"
	"purfling/collapse"
)

// wide is an edge whose border is so wide.
func wide(row int, col int, lies bool, width int64) api.Edge {
	return api.Edge{Row: row, Col: col, Lies: lies, Won: api.Side{Line: solid(width)}}
}

// halves are the greater and the smaller half of a width.
func halves(width int64) (int64, int64) {
	if width <= 0 {
		return 0, 0
	}
	return width/2 + width%2, width / 2
}

// sidesByWords holds the edges to the sides of some rows and columns; the great halves are those of top and left if inside is true, and else the other ones.
func sidesByWords(p api.Place, e []api.Edge, inside bool) [4]int64 {
	var sides [4]int64
	for _, x := range e {
		great, small := halves(x.Won.Line.Width)
		if !inside {
			great, small = small, great
		}
		inRows := p.Row <= x.Row && x.Row < p.Row+p.Rows
		inCols := p.Col <= x.Col && x.Col < p.Col+p.Cols
		if x.Lies && inCols && x.Row == p.Row {
			sides[0] = max(sides[0], great)
		}
		if !x.Lies && inRows && x.Col == p.Col+p.Cols {
			sides[1] = max(sides[1], small)
		}
		if x.Lies && inCols && x.Row == p.Row+p.Rows {
			sides[2] = max(sides[2], small)
		}
		if !x.Lies && inRows && x.Col == p.Col {
			sides[3] = max(sides[3], great)
		}
	}
	return sides
}

func insetsByWords(f api.Framing, e []api.Edge) [][4]int64 {
	var l [][4]int64
	for _, p := range f.Places {
		l = append(l, sidesByWords(p, e, true))
	}
	return l
}

// outerByWords takes the table for one place that has all slots.
func outerByWords(f api.Framing, e []api.Edge) [4]int64 {
	return sidesByWords(place(0, 0, f.Rows, f.Cols), e, false)
}

func wantInsets(t *testing.T, name string, f api.Framing, e []api.Edge, want [][4]int64, outer [4]int64) {
	t.Helper()
	if got, err := collapse.Insets(f, e); !slices.Equal(got, want) || err != api.OK {
		t.Fatalf("%s: Insets of %v = %v, %d, want %v", name, e, got, err, want)
	}
	if got, err := collapse.Outer(f, e); got != outer || err != api.OK {
		t.Fatalf("%s: Outer of %v = %v, %d, want %v", name, e, got, err, outer)
	}
}

// P12.2: the example of the chapter, and the other sides.
func TestInsetsExample(t *testing.T) {
	f := plain(1, 1, place(0, 0, 1, 1))
	for at, e := range []api.Edge{wide(0, 0, true, 5), wide(0, 1, false, 5), wide(1, 0, true, 5), wide(0, 0, false, 5)} {
		var in, out [4]int64
		in[at], out[at] = 3, 2
		if at == 1 || at == 2 {
			in[at], out[at] = 2, 3
		}
		wantInsets(t, "example", f, []api.Edge{e}, [][4]int64{in}, out)
	}
	wantInsets(t, "all sides", f, []api.Edge{wide(0, 0, true, 5), wide(0, 1, false, 7), wide(1, 0, true, 9), wide(0, 0, false, 11)}, [][4]int64{{3, 3, 4, 6}}, [4]int64{2, 4, 5, 5})
	wantInsets(t, "even widths", f, []api.Edge{wide(0, 0, true, 4), wide(0, 1, false, 6), wide(1, 0, true, 8), wide(0, 0, false, 10)}, [][4]int64{{2, 3, 4, 5}}, [4]int64{2, 3, 4, 5})
}

// P12.2: the two places at an edge have its two halves.
func TestHalves(t *testing.T) {
	f := plain(1, 2, place(0, 1, 1, 1), place(0, 0, 1, 1))
	wantInsets(t, "beside each other", f, []api.Edge{wide(0, 1, false, 5)}, [][4]int64{{0, 0, 0, 3}, {0, 2, 0, 0}}, [4]int64{})
	f = plain(2, 1, place(0, 0, 1, 1), place(1, 0, 1, 1))
	wantInsets(t, "below each other", f, []api.Edge{wide(1, 0, true, 5)}, [][4]int64{{0, 0, 2, 0}, {3, 0, 0, 0}}, [4]int64{})
	f = plain(1, 2, place(0, 0, 1, 1))
	wantInsets(t, "beside an empty slot", f, []api.Edge{wide(0, 1, false, 5), wide(0, 2, false, 9)}, [][4]int64{{0, 2, 0, 0}}, [4]int64{0, 5, 0, 0})
	f = plain(1, 2, place(0, 1, 1, 1))
	wantInsets(t, "behind an empty slot", f, []api.Edge{wide(0, 1, false, 5), wide(0, 0, false, 9)}, [][4]int64{{0, 0, 0, 3}}, [4]int64{0, 0, 0, 4})
	wantInsets(t, "no places", plain(2, 2), []api.Edge{wide(1, 0, true, 5), wide(0, 1, false, 5), wide(2, 1, true, 5)}, nil, [4]int64{0, 0, 3, 0})
}

// P12.2: of the edges along a side the widest counts, wherever it is among them, and none that is inside the place or past its corners.
func TestWidestEdge(t *testing.T) {
	f := plain(4, 4, place(1, 1, 2, 2))
	var e []api.Edge
	for _, lies := range []bool{true, false} {
		for row := -1; row <= 5; row++ {
			for col := -1; col <= 5; col++ {
				e = append(e, wide(row, col, lies, 7))
				wantInsets(t, "one edge", f, e[len(e)-1:], insetsByWords(f, e[len(e)-1:]), outerByWords(f, e[len(e)-1:]))
			}
		}
	}
	wantInsets(t, "all edges", f, e, [][4]int64{{4, 3, 3, 4}}, [4]int64{3, 4, 4, 3})
	none := slices.DeleteFunc(slices.Clone(e), func(x api.Edge) bool {
		return x.Lies && (x.Row == 1 || x.Row == 3) && (x.Col == 1 || x.Col == 2) || !x.Lies && (x.Col == 1 || x.Col == 3) && (x.Row == 1 || x.Row == 2)
	})
	if len(none) != len(e)-8 {
		t.Fatalf("%d edges of %d", len(none), len(e))
	}
	wantInsets(t, "edges that lie along no side", f, none, [][4]int64{{}}, [4]int64{3, 4, 4, 3})
	for _, widths := range [][2]int64{{3, 9}, {9, 3}, {-9, 9}, {9, 0}} {
		l := []api.Edge{wide(1, 1, true, widths[0]), wide(1, 2, true, widths[1]), wide(1, 3, false, widths[0]), wide(2, 3, false, widths[1]), wide(3, 2, true, widths[0]), wide(3, 1, true, widths[1]), wide(2, 1, false, widths[0]), wide(1, 1, false, widths[1])}
		wantInsets(t, "two edges at each side", f, l, [][4]int64{{5, 4, 4, 5}}, [4]int64{})
	}
	wantInsets(t, "one edge time and again", f, []api.Edge{wide(1, 1, true, 3), wide(1, 1, true, 9), wide(1, 1, true, 6)}, [][4]int64{{5, 0, 0, 0}}, [4]int64{})
}

// P12.2: any edges, with numbers that no edge of the framing has.
func TestStrangeEdges(t *testing.T) {
	f := plain(2, 3, place(0, 0, 2, 2), place(1, 2, 1, 1))
	numbers := []int{math.MinInt, math.MinInt + 1, -1 << 32, -2, -1, 0, 1, 2, 3, 4, 1 << 32, 1<<32 + 1, math.MaxInt - 1, math.MaxInt}
	for _, lies := range []bool{true, false} {
		for _, row := range numbers {
			for _, col := range numbers {
				e := []api.Edge{wide(row, col, lies, 5)}
				wantInsets(t, "one edge", f, e, insetsByWords(f, e), outerByWords(f, e))
			}
		}
	}
	for _, width := range []int64{math.MinInt64, math.MinInt64 + 1, -px, -2, -1, 0, 1, 2, 3, px, px + 1, math.MaxInt64 - 1, math.MaxInt64} {
		great, small := halves(width)
		e := []api.Edge{wide(0, 1, true, width), wide(1, 2, false, width), wide(2, 2, true, width), wide(0, 3, false, width), wide(1, 0, false, width)}
		wantInsets(t, "widths", f, e, [][4]int64{{great, small, 0, great}, {0, 0, small, great}}, [4]int64{small, great, great, small})
	}
	e := []api.Edge{{Lies: true, Won: api.Side{Line: api.Line{Style: -7, Width: 5}, By: 99, Row: -3, Col: -4}, Asked: -1}}
	wantInsets(t, "a side that is not valid", f, e, [][4]int64{{3, 0, 0, 0}, {}}, [4]int64{2, 0, 0, 0})
	e[0].Won.Line = api.Line{Style: api.BNone, Width: 5}
	wantInsets(t, "a line that is none, but wide", f, e, [][4]int64{{3, 0, 0, 0}, {}}, [4]int64{2, 0, 0, 0})
}

// P12.2: where there are no columns, the left side of the table is the right one as well, and so with rows.
func TestInsetsOfNoBands(t *testing.T) {
	var e []api.Edge
	for row := -1; row <= 3; row++ {
		for col := -1; col <= 3; col++ {
			e = append(e, wide(row, col, true, int64(100+10*row+col)), wide(row, col, false, int64(200+10*row+col)))
		}
	}
	wantInsets(t, "no columns", plain(2, 0), e, nil, [4]int64{0, 105, 0, 105})
	wantInsets(t, "no rows", plain(0, 2), e, nil, [4]int64{50, 0, 51, 0})
	wantInsets(t, "nothing", plain(0, 0), e, nil, [4]int64{})
	wantInsets(t, "one slot", plain(1, 1), e, nil, [4]int64{50, 101, 55, 100})
}

// P12.2: random framings with their own edges, and with any, against the chapter's words.
func TestInsetsByWords(t *testing.T) {
	r := numbers(16)
	for i := range 10000 {
		f := r.framing(2 + i%4)
		e, _ := collapse.Edges(f)
		wantInsets(t, "its own edges", f, e, insetsByWords(f, e), outerByWords(f, e))
		for many := r.below(40); many > 0; many-- {
			e = append(e, wide(r.below(9)-2, r.below(9)-2, r.below(2) == 0, int64(r.below(20)-3)))
		}
		slices.Reverse(e)
		wantInsets(t, "any edges", f, e, insetsByWords(f, e), outerByWords(f, e))
	}
}

// P12.2: ten thousand places and their edges.
func TestManyInsets(t *testing.T) {
	f := plain(100, 100)
	for i := range 10000 {
		f.Places = append(f.Places, place(i%100, i/100, 1, 1))
		f.Cells = append(f.Cells, solids(1, 2, 3, 4))
	}
	e, _ := collapse.Edges(f)
	l, err := collapse.Insets(f, slices.Repeat(e, 20))
	if err != api.OK || len(l) != 10000 || l[0] != [4]int64{1, 2, 1, 2} || l[9999] != [4]int64{2, 1, 1, 2} || l[101] != [4]int64{2, 2, 1, 2} {
		t.Errorf("%d insets, %d: %v, %v", len(l), err, l[0], l[9999])
	}
	if sides, err := collapse.Outer(f, slices.Repeat(e, 20)); err != api.OK || sides != [4]int64{0, 1, 2, 2} {
		t.Errorf("Outer = %v, %d", sides, err)
	}
}
