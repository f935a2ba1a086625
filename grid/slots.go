package grid

import (
	"iter"

	"purfling/api"
)

// slots visits the slots of a place, row by row.
func slots(place api.Place) iter.Seq[[2]int] {
	return func(yield func([2]int) bool) {
		for row := range place.Rows {
			for col := range place.Cols {
				if !yield([2]int{place.Row + row, place.Col + col}) {
					return
				}
			}
		}
	}
}

// whole visits all the slots of a grid, in order: as if one place had them.
func whole(rows int, cols int) iter.Seq[[2]int] {
	return slots(api.Place{Rows: rows, Cols: cols})
}

func rightSize(rows int, cols int) bool {
	return within(0, api.MaxRows, rows) && within(0, api.MaxBands, cols) && rows*cols <= mostSlots
}

// lies holds the first and the last of so many bands to the bounds, and how many they are as well, for their sum may wrap round.
func lies(from int, many int, all int) bool {
	return within(0, all-1, from, many-1, from+many-1)
}

// owners tells the index of the place to which each occupied slot belongs. It stops at the first slot that belongs to two, and so never has more slots than the grid, however many places there are.
func owners(places []api.Place, rows int, cols int) (map[[2]int]int, api.Errno) {
	if !rightSize(rows, cols) {
		return nil, api.ErrGrid
	}
	owner := map[[2]int]int{}
	for at, place := range places {
		if !lies(place.Row, place.Rows, rows) || !lies(place.Col, place.Cols, cols) {
			return nil, api.ErrGrid
		}
		for slot := range slots(place) {
			if _, ok := owner[slot]; ok {
				return nil, api.ErrGrid
			}
			owner[slot] = at
		}
	}
	return owner, api.OK
}

func Slots(places []api.Place, rows int, cols int) ([][]int, api.Errno) {
	owner, err := owners(places, rows, cols)
	if err != api.OK {
		return nil, err
	}
	list := make([][]int, rows)
	for slot := range whole(rows, cols) {
		at, ok := owner[slot]
		if !ok {
			at = -1
		}
		list[slot[0]] = append(list[slot[0]], at)
	}
	return list, api.OK
}

func Empty(places []api.Place, rows int, cols int) ([][2]int, api.Errno) {
	owner, err := owners(places, rows, cols)
	if err != api.OK {
		return nil, err
	}
	var list [][2]int
	for slot := range whole(rows, cols) {
		if _, ok := owner[slot]; !ok {
			list = append(list, slot)
		}
	}
	return list, api.OK
}
