package collapse

import (
	"purfling/api"
	"purfling/contest"
)

// courseOf chooses the course of an edge.
func (n net) courseOf(e api.Edge) course {
	if e.Lies {
		return n.lying()
	}
	return n.standing()
}

// widen lets a half of the border of an edge have the room that it needs at one of the sides.
func widen(sides *[4]int64, at int, e api.Edge, first bool) {
	sides[at] = max(sides[at], contest.Half(e.Won.Line.Width, first))
}

// Insets takes any edges: those that are inside a place, or beside the grid, lie along no side of a place.
func Insets(f api.Framing, e []api.Edge) ([][4]int64, api.Errno) {
	n, ok := netOf(f)
	if !ok {
		return nil, api.ErrFrame
	}
	list := make([][4]int64, len(f.Places))
	for _, edge := range e {
		c := n.courseOf(edge)
		before, behind := c.beside(c.turn(edge.Row, edge.Col))
		if before == behind {
			continue
		}
		if before >= 0 {
			widen(&list[before], c.rear, edge, false)
		}
		if behind >= 0 {
			widen(&list[behind], c.fore, edge, true)
		}
	}
	return list, api.OK
}

// Outer lets one edge lie along two sides where these are the same, for there are no bands between them.
func Outer(f api.Framing, e []api.Edge) ([4]int64, api.Errno) {
	n, ok := netOf(f)
	if !ok {
		return [4]int64{}, api.ErrFrame
	}
	var sides [4]int64
	for _, edge := range e {
		c := n.courseOf(edge)
		seam, band := c.turn(edge.Row, edge.Col)
		if band < 0 || band >= c.along {
			continue
		}
		if seam == 0 {
			widen(&sides, c.fore, edge, false)
		}
		if seam == c.parted {
			widen(&sides, c.rear, edge, true)
		}
	}
	return sides, api.OK
}
