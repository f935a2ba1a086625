package rect

import (
	"cmp"
	"slices"

	"purfling/api"
)

// A corner stands for the points right of it and below it, counted so many times.
type corner struct {
	at    complex128
	times int
}

// Tiles counts corners instead of points. The points of a rectangle are those that its top left corner stands for, less those of its top right and bottom left ones, plus those of its bottom right one, which are taken away twice by then; and what one corner stands for is never made up of what others do. So the tiles have the points of r, once each, if and only if nothing is left at any corner when r is taken away from them. A rectangle without points leaves nothing by itself.
func Tiles(r api.Rect, l []api.Rect) (bool, api.Errno) {
	if len(l) > mostTiles || !Right(r) || !allRight(l...) {
		return false, api.ErrRect
	}
	on := linesOf(append([]api.Rect{r}, l...)...)
	return cancel(append(on.corners(1, l...), on.corners(-1, r)...)), api.OK
}

// lines are the sorted positions at which rectangles begin and end.
type lines struct {
	xs []int64
	ys []int64
}

func linesOf(l ...api.Rect) lines {
	var on lines
	for r := range slices.Values(l) {
		on.xs = append(on.xs, r.X, r.X+r.W)
		on.ys = append(on.ys, r.Y, r.Y+r.H)
	}
	slices.Sort(on.xs)
	slices.Sort(on.ys)
	return on
}

func (on lines) corners(times int, l ...api.Rect) []corner {
	var all []corner
	for r := range slices.Values(l) {
		first, last := on.place(r.X, r.Y), on.place(r.X+r.W, r.Y+r.H)
		all = append(all,
			corner{first, times},
			corner{complex(real(last), imag(first)), -times},
			corner{complex(real(first), imag(last)), -times},
			corner{last, times})
	}
	return all
}

// place numbers the lines that cross at a corner, for a float holds such a number exactly, but not each coordinate.
func (on lines) place(x int64, y int64) complex128 {
	i, _ := slices.BinarySearch(on.xs, x)
	j, _ := slices.BinarySearch(on.ys, y)
	return complex(float64(i), float64(j))
}

// cancel sorts the corners, so that those at one place follow each other and are added up in one go.
func cancel(all []corner) bool {
	slices.SortFunc(all, func(a corner, b corner) int {
		return cmp.Or(cmp.Compare(real(a.at), real(b.at)), cmp.Compare(imag(a.at), imag(b.at)))
	})
	sum := 0
	for i, c := range slices.All(all) {
		if sum != 0 && c.at != all[i-1].at {
			goto left
		}
		sum += c.times
	}
left:
	return sum == 0
}
