package collapse

import (
	"math/bits"
	"slices"

	"purfling/api"
	"purfling/contest"
)

// A claim is what some sides come to: the one that wins, and how many they are.
type claim struct {
	won   api.Side
	asked int
}

// together need not know all the sides, for the one that wins against all is among those that win in each claim. Of no sides, none is the winner, as an edge wants it.
func together(l ...claim) claim {
	var all claim
	var sides []api.Side
	for _, c := range l {
		if c.asked > 0 {
			sides = append(sides, c.won)
			all.asked += c.asked
		}
	}
	all.won, _ = contest.Winner(sides...)
	return all
}

// A stretch is a run, and as what it asks for its lines.
type stretch struct {
	api.Run
	as api.Side
}

func (s stretch) claim(at int) claim {
	s.as.Line = s.Lines[at]
	return claim{s.as, 1}
}

func stretches(l []api.Run, as func(from int) api.Side) []stretch {
	list := make([]stretch, len(l))
	for i, run := range l {
		list[i] = stretch{run, as(run.From)}
	}
	return list
}

func rowStretches(f api.Framing) []stretch {
	return slices.Concat(
		stretches(f.RowRuns, func(from int) api.Side { return api.Side{By: api.ByRow, Row: from} }),
		stretches(f.RowGroups, func(from int) api.Side { return api.Side{By: api.ByRowGroup, Row: from} }),
	)
}

func colStretches(f api.Framing) []stretch {
	return slices.Concat(
		stretches(f.ColRuns, func(from int) api.Side { return api.Side{By: api.ByCol, Col: from} }),
		stretches(f.ColGroups, func(from int) api.Side { return api.Side{By: api.ByColGroup, Col: from} }),
	)
}

// cover has for each band the claim of the stretches that contain it. A stretch is covered by two ranges of a power of two bands; the winners of ranges are handed down to their halves, so that time grows with the stretches, and not with their lengths.
func cover(bands int, l []stretch, at int) []claim {
	claims := make([]claim, bands)
	for wide := 1 << bits.Len(uint(bands)); wide > 0; wide /= 2 {
		claims = halved(claims, wide)
		for _, s := range l {
			if long := s.To - s.From; wide <= long && long < 2*wide {
				claims[s.From] = together(claims[s.From], s.claim(at))
				claims[s.To-wide] = together(claims[s.To-wide], s.claim(at))
			}
		}
	}
	// Ranges overlap, so that they have counted some stretches more than once.
	for band, asked := range counts(bands, l) {
		claims[band].asked = asked
	}
	return claims
}

// halved makes of the claims of ranges, each at its first band, those of ranges that are so wide, which is half as wide as before.
func halved(claims []claim, wide int) []claim {
	list := slices.Clone(claims)
	for band, c := range claims {
		if c.asked > 0 {
			list[band+wide] = together(list[band+wide], c)
		}
	}
	return list
}

// counts tells of how many stretches each band is.
func counts(bands int, l []stretch) []int {
	list := make([]int, bands+1)
	for _, s := range l {
		list[s.From]++
		list[s.To]--
	}
	for band := range bands {
		list[band+1] += list[band]
	}
	return list[:bands]
}

// requests are what is asked for beside the lines of cells: by those who begin or end at each seam, and, for each band, at the first and the last seam.
type requests struct {
	seams []claim
	first []claim
	last  []claim
}

// requests takes the table for a stretch of all the bands that edges go along.
func (c course) requests(parted []stretch, along []stretch, table [4]api.Line) requests {
	whole := stretch{api.Run{To: c.along, Lines: table}, api.Side{By: api.ByTable}}
	along = slices.Concat(along, []stretch{whole})
	seams := make([]claim, c.parted+1)
	for _, s := range parted {
		seams[s.From] = together(seams[s.From], s.claim(c.fore))
		seams[s.To] = together(seams[s.To], s.claim(c.rear))
	}
	return requests{seams, cover(c.along, along, c.fore), cover(c.along, along, c.rear)}
}

// at lets one seam be both the first and the last one, where there are no bands to part.
func (r requests) at(seam int, band int) claim {
	l := []claim{r.seams[seam]}
	if seam == 0 {
		l = append(l, r.first[band])
	}
	if seam == len(r.seams)-1 {
		l = append(l, r.last[band])
	}
	return together(l...)
}

// cell has no claim for a slot that is no one's.
func cell(f api.Framing, owner int, at int) claim {
	if owner < 0 {
		return claim{}
	}
	place := f.Places[owner]
	return claim{api.Side{Line: f.Cells[owner][at], By: api.ByCell, Row: place.Row, Col: place.Col}, 1}
}

func (c course) won(f api.Framing, r requests) []api.Edge {
	var list []api.Edge
	for seam, band := range c.edges() {
		before, behind := c.beside(seam, band)
		all := together(cell(f, before, c.rear), cell(f, behind, c.fore), r.at(seam, band))
		row, col := c.turn(seam, band)
		list = append(list, api.Edge{Row: row, Col: col, Lies: c.lies, Won: all.won, Asked: all.asked})
	}
	return list
}

func Edges(f api.Framing) ([]api.Edge, api.Errno) {
	n, ok := netOf(f)
	if !ok {
		return nil, api.ErrFrame
	}
	rows, cols := rowStretches(f), colStretches(f)
	lying, standing := n.lying(), n.standing()
	return slices.Concat(
		lying.won(f, lying.requests(rows, cols, f.Table)),
		standing.won(f, standing.requests(cols, rows, f.Table)),
	), api.OK
}
