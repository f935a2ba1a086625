package edges

import (
	"purfling/api"
	"purfling/rect"
)

// A net has the starts of columns and rows, one more of each than there are, and its gaps as ways across and down.
type net struct {
	xs     []int64
	ys     []int64
	across complex128
	down   complex128
}

func netOf(cols []int64, rows []int64, gaps [2]int64) (net, bool) {
	if !Right(cols, gaps[0]) || !Right(rows, gaps[1]) {
		return net{}, false
	}
	return net{
		xs:     firstStarts(len(cols)+1, gaps[0], cols...),
		ys:     firstStarts(len(rows)+1, gaps[1], rows...),
		across: complex(float64(gaps[0]), 0),
		down:   complex(0, float64(gaps[1])),
	}, true
}

func (n net) cols() int { return len(n.xs) - 1 }

func (n net) rows() int { return len(n.ys) - 1 }

// start loses nothing by its floats, for no start is beyond 2^45.
func (n net) start(col int, row int) complex128 {
	return complex(float64(n.xs[col]), float64(n.ys[row]))
}

// between ignores the error of Move, for no corner is further off than a rectangle may be.
func between(first complex128, last complex128) api.Rect {
	size := last - first
	r, _ := rect.Move(api.Rect{W: int64(real(size)), H: int64(imag(size))}, int64(real(first)), int64(imag(first)))
	return r
}

func (n net) has(place api.Place) bool {
	return place.Cols > 0 && lies(place.Col, place.Cols, n.cols()) && place.Rows > 0 && lies(place.Row, place.Rows, n.rows())
}

func (n net) cell(place api.Place) api.Rect {
	first := n.start(place.Col, place.Row)
	next := n.start(place.Col+place.Cols, place.Row+place.Rows)
	return between(first, next-n.across-n.down)
}

// standing is the gap before a column, or behind the last one, from above the first row to below the last.
func (n net) standing(col int) api.Rect {
	return between(n.start(col, 0)-n.across-n.down, n.start(col, n.rows()))
}

// lying is the gap above a row, or below the last one, at one column.
func (n net) lying(col int, row int) api.Rect {
	return between(n.start(col, row)-n.down, n.start(col+1, row)-n.across)
}

func Cells(l []api.Place, cols []int64, rows []int64, gaps [2]int64) ([]api.Rect, api.Errno) {
	var list []api.Rect
	n, right := netOf(cols, rows, gaps)
	if !right {
		goto wrong
	}
	for _, place := range l {
		if !n.has(place) {
			goto wrong
		}
		list = append(list, n.cell(place))
	}
	return list, api.OK
wrong:
	return nil, api.ErrBands
}

// Gutters asks for its memory at once, for there are as many gutters as slots and more.
func Gutters(cols []int64, rows []int64, gaps [2]int64) ([]api.Rect, api.Errno) {
	n, right := netOf(cols, rows, gaps)
	if !right {
		return nil, api.ErrBands
	}
	if n.cols() == 0 || n.rows() == 0 || gaps == [2]int64{} {
		return nil, api.OK
	}
	list := make([]api.Rect, 0, len(n.xs)+len(n.ys)*n.cols())
	for col := range n.xs {
		list = append(list, n.standing(col))
	}
	for row := range n.ys {
		for col := range n.cols() {
			list = append(list, n.lying(col, row))
		}
	}
	return list, api.OK
}
