package rect_test

import (
	"slices"
	"testing"

	"purfling/api"
	"purfling/rect"
)

// numbers answers the same numbers below a bound on every run, so that a test that fails fails again.
type numbers uint64

func (n *numbers) below(bound int64) int64 {
	*n = *n*6364136223846793005 + 1442695040888963407
	return int64(uint64(*n)>>1) % bound
}

// tilesByPoint asks point by point, as P2.3 words it.
func tilesByPoint(r api.Rect, l []api.Rect) bool {
	times := map[point]int{}
	for _, tile := range l {
		for p := range points(tile) {
			times[p]++
		}
	}
	inside := points(r)
	for p, n := range times {
		if n != 1 || !inside[p] {
			return false
		}
	}
	return len(times) == len(inside)
}

// cut divides a rectangle at random until there are many tiles, or no more are found to be divided.
func (n *numbers) cut(r api.Rect, many int) []api.Rect {
	l := []api.Rect{r}
	for range 4 * many {
		i := n.below(int64(len(l)))
		tile := l[i]
		if n.below(2) == 0 && tile.W > 1 {
			w := 1 + n.below(tile.W-1)
			l[i] = box(tile.X, tile.Y, w, tile.H)
			l = append(l, box(tile.X+w, tile.Y, tile.W-w, tile.H))
		} else if tile.H > 1 {
			h := 1 + n.below(tile.H-1)
			l[i] = box(tile.X, tile.Y, tile.W, h)
			l = append(l, box(tile.X, tile.Y+h, tile.W, tile.H-h))
		}
		if len(l) == many {
			break
		}
	}
	return l
}

func wantTiles(t *testing.T, name string, r api.Rect, l []api.Rect, want bool) {
	t.Helper()
	if got, err := rect.Tiles(r, l); got != want || err != api.OK {
		t.Errorf("%s: Tiles(%v, %v) = %t, %d, want %t", name, r, l, got, err, want)
	}
	back := make([]api.Rect, 0, len(l))
	for _, tile := range slices.Backward(l) {
		back = append(back, flipped(tile))
	}
	if got, err := rect.Tiles(flipped(r), back); got != want || err != api.OK {
		t.Errorf("%s, flipped: Tiles(%v, %v) = %t, %d, want %t", name, r, l, got, err, want)
	}
}

// P2.3: tilings, and what falls short of one, written out.
func TestTiles(t *testing.T) {
	for _, c := range []struct {
		name string
		r    api.Rect
		l    []api.Rect
		want bool
	}{
		{"two", box(0, 0, 2, 2), []api.Rect{box(0, 0, 1, 2), box(1, 0, 1, 2)}, true},
		{"four", box(0, 0, 3, 3), []api.Rect{box(0, 0, 1, 3), box(1, 0, 2, 1), box(1, 1, 1, 2), box(2, 1, 1, 2)}, true},
		{"itself", box(-5, 6, 7, 8), []api.Rect{box(-5, 6, 7, 8)}, true},
		{"a whirl", box(0, 0, 3, 3), []api.Rect{box(0, 0, 2, 1), box(2, 0, 1, 2), box(1, 2, 2, 1), box(0, 1, 1, 2), box(1, 1, 1, 1)}, true},
		{"a whirl with a hole", box(0, 0, 3, 3), []api.Rect{box(0, 0, 2, 1), box(2, 0, 1, 2), box(1, 2, 2, 1), box(0, 1, 1, 2)}, false},
		{"none", box(0, 0, 3, 3), nil, false},
		{"twice", box(0, 0, 3, 3), []api.Rect{box(0, 0, 3, 3), box(0, 0, 3, 3)}, false},
		{"three times", box(0, 0, 3, 3), []api.Rect{box(0, 0, 3, 3), box(0, 0, 3, 3), box(0, 0, 3, 3)}, false},
		{"elsewhere", box(0, 0, 3, 3), []api.Rect{box(1, 0, 3, 3)}, false},
		{"too much", box(0, 0, 2, 2), []api.Rect{box(0, 0, 1, 2), box(1, 0, 2, 2)}, false},
		{"too much beside", box(0, 0, 2, 2), []api.Rect{box(0, 0, 2, 2), box(2, 0, 1, 1)}, false},
		{"apart from it", box(0, 0, 2, 2), []api.Rect{box(0, 0, 2, 2), box(9, 9, 1, 1)}, false},
		{"all around it", box(1, 1, 1, 1), []api.Rect{box(0, 0, 3, 3)}, false},
		{"a gap and an overlap of one size", box(0, 0, 4, 1), []api.Rect{box(0, 0, 2, 1), box(1, 0, 2, 1)}, false},
		{"the same half twice", box(0, 0, 2, 2), []api.Rect{box(0, 0, 1, 2), box(0, 0, 1, 2)}, false},
		{"the corners only", box(0, 0, 3, 3), []api.Rect{box(0, 0, 1, 1), box(2, 0, 1, 1), box(0, 2, 1, 1), box(2, 2, 1, 1)}, false},
		{"two corners that meet", box(0, 0, 2, 2), []api.Rect{box(0, 0, 1, 1), box(1, 1, 1, 1)}, false},
		{"a cross", box(0, 0, 3, 3), []api.Rect{box(0, 1, 3, 1), box(1, 0, 1, 3)}, false},
		{"as large, but two levels", box(0, 0, 2, 2), []api.Rect{box(0, 0, 2, 1), box(0, 0, 2, 1)}, false},
		{"another shape, as large", box(0, 0, 4, 1), []api.Rect{box(0, 0, 2, 2)}, false},
	} {
		wantTiles(t, c.name, c.r, c.l, c.want)
	}
}

// P2.3: what has no points neither tiles nor disturbs, wherever it is.
func TestTilesWithoutPoints(t *testing.T) {
	without := []api.Rect{box(1, 1, 0, 1), box(0, 0, 2, 0), box(high, low, high, 0), box(low, high, 0, 0), {}}
	wantTiles(t, "within a tiling", box(0, 0, 2, 2), append(slices.Clone(without), box(0, 0, 2, 2)), true)
	wantTiles(t, "alone", box(0, 0, 2, 2), without, false)
	for _, r := range without {
		wantTiles(t, "of nothing, by none", r, nil, true)
		wantTiles(t, "of nothing, by itself", r, []api.Rect{r}, true)
		wantTiles(t, "of nothing, by nothing", r, without, true)
		wantTiles(t, "of nothing, by something", r, append(slices.Clone(without), box(0, 0, 1, 1)), false)
	}
}

// P2.3 and P2.4: every two and some three small rectangles tile one just as their points say, and only from within.
func TestTilesHasThePoints(t *testing.T) {
	var n numbers = 1
	r := box(0, -1, 2, 2)
	for i, a := range small() {
		for j, b := range small() {
			for _, l := range [][]api.Rect{{a, b}, {a, b, small()[n.below(int64(len(small())))]}} {
				got, err := rect.Tiles(r, l)
				if want := tilesByPoint(r, l); got != want || err != api.OK {
					t.Fatalf("%d, %d: Tiles(%v, %v) = %t, %d, want %t", i, j, r, l, got, err, want)
				}
				if got {
					lieWithin(t, r, l)
				}
			}
		}
	}
}

// lieWithin reports where a tiling breaks P2.4.
func lieWithin(t *testing.T, r api.Rect, l []api.Rect) {
	t.Helper()
	for _, tile := range l {
		if meet, err := rect.Meet(r, tile); tile.W > 0 && tile.H > 0 && (meet != tile || err != api.OK) {
			t.Errorf("%v of %v is not within %v", tile, l, r)
		}
	}
}

// P2.3 and P2.4: rectangles that are cut at random, small ones and those of the greatest lengths, are tiled by their pieces, and not by pieces of which one is off by 1.
func TestTilesByCutting(t *testing.T) {
	var n numbers = 2
	for _, r := range []api.Rect{ // none ends beyond the last coordinate at which a tile may begin
		box(0, 0, 6, 5), box(-3, -2, 40, 30), box(1<<53, -1<<53, 1000, 1000),
		box(low, low, high, high), box(low, high-1000, high, 1000), box(-high/2, 0, high, high), box(1, 1, high-1, high-1),
	} {
		for range 60 {
			if t.Failed() {
				return
			}
			l := n.cut(r, 2+int(n.below(30)))
			wantTiles(t, "cut", r, l, true)
			lieWithin(t, r, l)
			i := n.below(int64(len(l)))
			for _, by := range []api.Rect{box(1, 0, 0, 0), box(-1, 0, 0, 0), box(0, 0, 1, 0), box(0, 0, -1, 0), box(1, 0, -1, 0)} {
				off := slices.Clone(l)
				off[i] = box(l[i].X+by.X, l[i].Y+by.Y, l[i].W+by.W, l[i].H+by.H)
				if rect.Right(off[i]) {
					wantTiles(t, "off", r, off, false)
				}
			}
			wantTiles(t, "one too few", r, slices.Delete(slices.Clone(l), int(i), int(i)+1), false)
			wantTiles(t, "one twice", r, append(slices.Clone(l), l[i]), false)
		}
	}
}

// P2.3: lengths that a float doesn't hold exactly still count to the last unit.
func TestTilesToTheLastUnit(t *testing.T) {
	r := box(low, low, high, high)
	top := box(low, low, high, 1)
	wantTiles(t, "all", r, []api.Rect{top, box(low, low+1, high, high-1)}, true)
	wantTiles(t, "one row short", r, []api.Rect{top, box(low, low+1, high, high-2)}, false)
	wantTiles(t, "one row more", r, []api.Rect{top, box(low, low+1, high, high)}, false)
	wantTiles(t, "one row further", r, []api.Rect{top, box(low, low+2, high, high-2)}, false)
	wantTiles(t, "one row twice", r, []api.Rect{top, box(low, low, high, high)}, false)
	wantTiles(t, "nothing but one row", r, []api.Rect{top}, false)
	r = box(high-1, high-1, high, high) // its tiles begin at the last coordinates, and end far beyond
	top, left := box(high-1, high-1, high, 1), box(high-1, high, 1, high-1)
	wantTiles(t, "all, at the end", r, []api.Rect{top, left, box(high, high, high-1, high-1)}, true)
	wantTiles(t, "one too short, at the end", r, []api.Rect{top, left, box(high, high, high-1, high-2)}, false)
	wantTiles(t, "one too long, at the end", r, []api.Rect{top, left, box(high, high, high-1, high)}, false)
}

// P2.3: as many tiles as there may be, and one more.
func TestTilesAtMost(t *testing.T) {
	var l []api.Rect
	for i := range int64(400) {
		l = append(l, box(i%20*3, i/20*5, 3, 5))
	}
	wantTiles(t, "400", box(0, 0, 60, 100), l, true)
	wantTiles(t, "400, of more", box(0, 0, 60, 101), l, false)
	wantTiles(t, "400 of the greatest, each upon the other", box(0, 0, high, high), slices.Repeat([]api.Rect{box(0, 0, high, high)}, 400), false)
	for _, more := range [][]api.Rect{append(slices.Clone(l), api.Rect{}), make([]api.Rect, 401), make([]api.Rect, 100000)} {
		if got, err := rect.Tiles(box(0, 0, 60, 100), more); got || err != api.ErrRect {
			t.Errorf("%d tiles: %t, %d", len(more), got, err)
		}
	}
}

// P2.3: a wrong rectangle is an error, whether it is to be tiled or is a tile, and wherever it stands.
func TestWrongTilesAreErrors(t *testing.T) {
	fine := box(0, 0, 2, 2)
	for _, r := range append(wrongOnes(), box(low-1, 0, 0, 0), box(0, high+1, 1, 0)) {
		if got, err := rect.Tiles(r, []api.Rect{fine}); got || err != api.ErrRect {
			t.Errorf("Tiles of %v: %t, %d", r, got, err)
		}
		if got, err := rect.Tiles(r, nil); got || err != api.ErrRect {
			t.Errorf("Tiles of %v by none: %t, %d", r, got, err)
		}
		for _, l := range [][]api.Rect{{r}, {fine, r}, {r, fine}, {r, r}, {fine, fine, r, fine}} {
			if got, err := rect.Tiles(fine, l); got || err != api.ErrRect {
				t.Errorf("Tiles by %v: %t, %d", l, got, err)
			}
		}
	}
}
