package rect_test

import (
	"math"
	"slices"
	"testing"

	"purfling/api"
	"purfling/rect"
)

const (
	low  = -1 << 60  // the least coordinate
	high = 1<<60 - 1 // the greatest coordinate, and the greatest size
	way  = 1 << 61   // the longest way to move
)

func box(x int64, y int64, w int64, h int64) api.Rect {
	return api.Rect{X: x, Y: y, W: w, H: h}
}

// flipped has its rows and columns exchanged, for what holds along must hold down too.
func flipped(r api.Rect) api.Rect {
	return box(r.Y, r.X, r.H, r.W)
}

// wrongOnes are not valid, each for one number only.
func wrongOnes() []api.Rect {
	var l []api.Rect
	for _, n := range []int64{low - 1, high + 1, math.MinInt64, math.MaxInt64} {
		l = append(l, box(n, 0, 1, 1), box(0, n, 1, 1))
	}
	for _, n := range []int64{-1, high + 1, math.MinInt64, math.MaxInt64} {
		l = append(l, box(0, 0, n, 1), box(0, 0, 1, n))
	}
	return l
}

// small are the rectangles of a small area, with points and without.
func small() []api.Rect {
	var l []api.Rect
	for x := int64(-1); x < 2; x++ {
		for y := int64(-1); y < 2; y++ {
			for w := range int64(3) {
				for h := range int64(3) {
					l = append(l, box(x, y, w, h))
				}
			}
		}
	}
	return l
}

type point struct{ x, y int64 }

// points are those of a small rectangle, as the chapter words them.
func points(r api.Rect) map[point]bool {
	all := map[point]bool{}
	for x := r.X; x < r.X+r.W; x++ {
		for y := r.Y; y < r.Y+r.H; y++ {
			all[point{x, y}] = true
		}
	}
	return all
}

// around is the smallest rectangle with all these points.
func around(all map[point]bool) api.Rect {
	var r api.Rect
	for p := range all {
		if r.W == 0 {
			r = box(p.x, p.y, 1, 1)
		}
		right, bottom := max(r.X+r.W, p.x+1), max(r.Y+r.H, p.y+1)
		x, y := min(r.X, p.x), min(r.Y, p.y)
		r = box(x, y, right-x, bottom-y)
	}
	return r
}

// P2.1: a rectangle is valid within the bounds, these included, and not beyond any of them.
func TestRight(t *testing.T) {
	for _, r := range []api.Rect{
		{}, box(1, 2, 3, 4), box(-5, -6, 0, 0), box(7, 8, 0, 9), box(7, 8, 9, 0),
		box(low, low, 0, 0), box(low, low, high, high), box(high, high, high, high),
		box(low, high, 0, high), box(high, low, high, 0),
	} {
		if !rect.Right(r) {
			t.Errorf("%v is not right", r)
		}
	}
	for _, r := range append(wrongOnes(), box(low-1, high+1, -1, high+1)) {
		if rect.Right(r) {
			t.Errorf("%v is right", r)
		}
	}
}

// P2.1: what two rectangles have in common, written out, along and down.
func TestMeet(t *testing.T) {
	for _, c := range []struct{ a, b, want api.Rect }{
		{box(0, 0, 4, 4), box(2, 3, 9, 9), box(2, 3, 2, 1)},
		{box(0, 0, 4, 4), box(4, 0, 4, 4), api.Rect{}},
		{box(0, 0, 4, 4), box(4, 4, 4, 4), api.Rect{}},
		{box(0, 0, 4, 4), box(3, 3, 4, 4), box(3, 3, 1, 1)},
		{box(0, 0, 4, 4), box(9, 1, 4, 1), api.Rect{}},
		{box(-9, -8, 20, 20), box(-3, -2, 1, 5), box(-3, -2, 1, 5)},
		{box(5, 6, 7, 8), box(5, 6, 7, 8), box(5, 6, 7, 8)},
		{box(0, 0, 4, 4), box(2, 2, 0, 1), api.Rect{}},
		{box(2, 2, 0, 5), box(2, 2, 0, 5), api.Rect{}},
		{box(0, 5, 9, 1), box(3, 0, 1, 9), box(3, 5, 1, 1)},
		{box(low, low, high, high), box(high, high, high, high), api.Rect{}},
		{box(low, low, high, high), box(-2, -2, high, high), box(-2, -2, 1, 1)},
		{box(low, low, high, high), box(-1, -1, high, high), api.Rect{}},
		{box(high, high, high, high), box(high, high, 1, high), box(high, high, 1, high)},
	} {
		if got, err := rect.Meet(c.a, c.b); got != c.want || err != api.OK {
			t.Errorf("Meet(%v, %v) = %v, %d, want %v", c.a, c.b, got, err, c.want)
		}
		if got, err := rect.Meet(flipped(c.a), flipped(c.b)); got != flipped(c.want) || err != api.OK {
			t.Errorf("flipped: Meet(%v, %v) = %v, %d, want %v", c.a, c.b, got, err, c.want)
		}
	}
}

// P2.1 and P2.4: of small rectangles, Meet has the points that both have, and Around all of them; the order doesn't matter.
func TestMeetAndAroundHaveThePoints(t *testing.T) {
	for _, a := range small() {
		for _, b := range small() {
			both, any := map[point]bool{}, points(a)
			for p := range points(b) {
				if any[p] {
					both[p] = true
				}
				any[p] = true
			}
			meet, err := rect.Meet(a, b)
			if want := around(both); meet != want || err != api.OK || len(points(meet)) != len(both) {
				t.Fatalf("Meet(%v, %v) = %v, %d, want %v", a, b, meet, err, want)
			}
			if back, err := rect.Meet(b, a); back != meet || err != api.OK {
				t.Fatalf("Meet(%v, %v) = %v, %d, but %v the other way round", b, a, back, err, meet)
			}
			for _, l := range [][]api.Rect{{a, b}, {b, a}, {a, b, a, {}}} {
				if got, err := rect.Around(l...); got != around(any) || err != api.OK {
					t.Fatalf("Around(%v) = %v, %d, want %v", l, got, err, around(any))
				}
			}
		}
	}
}

// P2.1 and P2.4: the rectangle around others, written out; those without points don't count, wherever they are.
func TestAround(t *testing.T) {
	for _, c := range []struct {
		l    []api.Rect
		want api.Rect
	}{
		{nil, api.Rect{}},
		{[]api.Rect{}, api.Rect{}},
		{[]api.Rect{box(3, 4, 5, 6)}, box(3, 4, 5, 6)},
		{[]api.Rect{box(3, 4, 0, 6), box(1, 1, 1, 0)}, api.Rect{}},
		{[]api.Rect{box(5, 5, 0, 9), box(1, 2, 3, 4), box(0, 9, 1, 1)}, box(0, 2, 4, 8)},
		{[]api.Rect{box(0, 9, 1, 1), box(1, 2, 3, 4), box(50, 50, 9, 0)}, box(0, 2, 4, 8)},
		{[]api.Rect{box(0, 0, 9, 9), box(2, 2, 1, 1)}, box(0, 0, 9, 9)},
		{[]api.Rect{box(2, 2, 1, 1), box(0, 0, 9, 9)}, box(0, 0, 9, 9)},
		{[]api.Rect{box(-9, -9, 2, 2), box(7, 7, 2, 2)}, box(-9, -9, 18, 18)},
		{[]api.Rect{box(low, low, high, high)}, box(low, low, high, high)},
		{[]api.Rect{box(high, high, high, high)}, box(high, high, high, high)},
		{[]api.Rect{box(low, 0, 1, 1), box(-2, 0, 1, 1)}, box(low, 0, high, 1)},
		{[]api.Rect{box(0, 0, 1, 1), box(high-1, 0, 1, 1)}, box(0, 0, high, 1)},
		{[]api.Rect{box(high, 3, high, 1), box(high, 7, 1, 1)}, box(high, 3, high, 5)},
		{[]api.Rect{box(low, low, 0, 1), box(3, 4, 5, 6), box(high, high, high, 0)}, box(3, 4, 5, 6)},
	} {
		if got, err := rect.Around(c.l...); got != c.want || err != api.OK {
			t.Errorf("Around(%v) = %v, %d, want %v", c.l, got, err, c.want)
		}
		var l []api.Rect
		for _, r := range slices.Backward(c.l) {
			l = append(l, flipped(r))
		}
		if got, err := rect.Around(l...); got != flipped(c.want) || err != api.OK {
			t.Errorf("Around(%v) = %v, %d, want %v", l, got, err, flipped(c.want))
		}
	}
}

// P2.1: a rectangle around others that would not be valid is an error, even if a later one is wanted.
func TestAroundTooLarge(t *testing.T) {
	for _, l := range [][]api.Rect{
		{box(low, 0, 1, 1), box(-1, 0, 1, 1)},
		{box(low, 0, 1, 1), box(high, 0, high, 1)},
		{box(0, 0, 1, 1), box(high, 0, 1, 1), box(4, 4, 1, 1)},
		{box(-1, 0, high, 1), box(high-1, 0, 1, 1)},
		{box(0, 0, 0, 0), box(0, 0, high, 1), box(1, 0, high, 1)},
	} {
		if got, err := rect.Around(l...); got != (api.Rect{}) || err != api.ErrRect {
			t.Errorf("Around(%v) = %v, %d", l, got, err)
		}
		for i := range l {
			l[i] = flipped(l[i])
		}
		if got, err := rect.Around(l...); got != (api.Rect{}) || err != api.ErrRect {
			t.Errorf("Around(%v) = %v, %d", l, got, err)
		}
	}
}

// P2.1: a wrong rectangle is an error wherever it stands, and even if it has no points.
func TestWrongRectsAreErrors(t *testing.T) {
	fine := box(0, 0, 2, 2)
	for _, r := range append(wrongOnes(), box(low-1, 0, 0, 0), box(0, high+1, 1, 0), box(0, 0, 0, -1)) {
		for _, pair := range [][2]api.Rect{{r, fine}, {fine, r}, {r, r}, {r, {}}, {{}, r}} {
			if got, err := rect.Meet(pair[0], pair[1]); got != (api.Rect{}) || err != api.ErrRect {
				t.Errorf("Meet(%v) = %v, %d", pair, got, err)
			}
		}
		for _, l := range [][]api.Rect{{r}, {r, fine}, {fine, r}, {fine, r, fine}, {{}, r}} {
			if got, err := rect.Around(l...); got != (api.Rect{}) || err != api.ErrRect {
				t.Errorf("Around(%v) = %v, %d", l, got, err)
			}
		}
		if got, err := rect.Move(r, 0, 0); got != (api.Rect{}) || err != api.ErrRect {
			t.Errorf("Move(%v) = %v, %d", r, got, err)
		}
		if got, err := rect.Inset(r, [4]int64{}); got != (api.Rect{}) || err != api.ErrRect {
			t.Errorf("Inset(%v) = %v, %d", r, got, err)
		}
	}
	// What would be right again after the move, or the inset, was wrong before.
	if got, err := rect.Move(box(high+1, 0, 1, 1), -1, 0); got != (api.Rect{}) || err != api.ErrRect {
		t.Errorf("moved back: %v, %d", got, err)
	}
	if got, err := rect.Inset(box(0, 0, high+1, 1), [4]int64{0, 1, 0, 0}); got != (api.Rect{}) || err != api.ErrRect {
		t.Errorf("inset: %v, %d", got, err)
	}
}

// P2.2: a rectangle keeps its sizes where it is moved, as far as the bounds.
func TestMove(t *testing.T) {
	for _, c := range []struct {
		r    api.Rect
		x, y int64
		want api.Rect
	}{
		{box(1, 2, 3, 4), 10, 20, box(11, 22, 3, 4)},
		{box(1, 2, 3, 4), -10, 0, box(-9, 2, 3, 4)},
		{box(1, 2, 0, 0), 0, 0, box(1, 2, 0, 0)},
		{api.Rect{}, 5, 6, box(5, 6, 0, 0)},
		{box(low, low, 1, high), high - low, high - low, box(high, high, 1, high)},
		{box(high, high, high, 1), low - high, low - high, box(low, low, high, 1)},
		{box(0, 0, high, high), high, low, box(high, low, high, high)},
	} {
		if got, err := rect.Move(c.r, c.x, c.y); got != c.want || err != api.OK {
			t.Errorf("Move(%v, %d, %d) = %v, %d, want %v", c.r, c.x, c.y, got, err, c.want)
		}
	}
}

// P2.2: a way that is too long, or that leads beyond the bounds, is an error.
func TestMoveTooFar(t *testing.T) {
	for _, c := range []struct {
		r api.Rect
		n int64
	}{
		{box(high, high, 0, 0), 1},
		{box(low, low, 0, 0), -1},
		{box(0, 0, 1, 1), high + 1},
		{box(0, 0, 1, 1), low - 1},
		{box(low, low, 1, 1), way}, // from the least coordinate, that is one too far
		{box(high, high, 1, 1), -way},
		{box(low, low, 1, 1), way + 1},
		{box(-2, -2, 1, 1), way + 1},
		{box(high, high, 1, 1), -way - 1},
		{box(0, 0, 1, 1), math.MaxInt64},
		{box(0, 0, 1, 1), math.MinInt64},
		{box(high, high, 1, 1), math.MaxInt64},
		{box(low, low, 1, 1), math.MinInt64},
	} {
		for _, by := range [][2]int64{{c.n, 0}, {0, c.n}, {c.n, c.n}} {
			if got, err := rect.Move(c.r, by[0], by[1]); got != (api.Rect{}) || err != api.ErrRect {
				t.Errorf("Move(%v, %d) = %v, %d", c.r, by, got, err)
			}
		}
	}
}

// P2.2: sides move inwards: top, right, bottom, left; the corner moves on even where nothing is left.
func TestInset(t *testing.T) {
	for _, c := range []struct {
		r    api.Rect
		by   [4]int64
		want api.Rect
	}{
		{box(1, 2, 9, 9), [4]int64{1, 2, 3, 4}, box(5, 3, 3, 5)},
		{box(1, 2, 9, 9), [4]int64{}, box(1, 2, 9, 9)},
		{box(1, 2, 9, 9), [4]int64{1, 0, 0, 0}, box(1, 3, 9, 8)},
		{box(1, 2, 9, 9), [4]int64{0, 1, 0, 0}, box(1, 2, 8, 9)},
		{box(1, 2, 9, 9), [4]int64{0, 0, 1, 0}, box(1, 2, 9, 8)},
		{box(1, 2, 9, 9), [4]int64{0, 0, 0, 1}, box(2, 2, 8, 9)},
		{box(1, 2, 3, 3), [4]int64{9, 0, 0, 9}, box(10, 11, 0, 0)},
		{box(1, 2, 3, 3), [4]int64{0, 9, 9, 0}, box(1, 2, 0, 0)},
		{box(1, 2, 3, 4), [4]int64{2, 1, 2, 2}, box(3, 4, 0, 0)},
		{box(1, 2, 3, 4), [4]int64{2, 2, 1, 2}, box(3, 4, 0, 1)},
		{api.Rect{}, [4]int64{5, 5, 5, 5}, box(5, 5, 0, 0)},
		{box(0, 0, high, high), [4]int64{high, high, high, high}, box(high, high, 0, 0)},
		{box(low, low, high, high), [4]int64{high, 0, 0, high}, box(-1, -1, 0, 0)},
		{box(low, low, 0, 0), [4]int64{high, high, high, high}, box(-1, -1, 0, 0)},
		{box(high, high, high, high), [4]int64{0, high, high - 1, 0}, box(high, high, 0, 1)},
	} {
		if got, err := rect.Inset(c.r, c.by); got != c.want || err != api.OK {
			t.Errorf("Inset(%v, %d) = %v, %d, want %v", c.r, c.by, got, err, c.want)
		}
	}
}

// P2.2: a negative inset, one that is too large, and one that leads beyond the bounds are errors.
func TestWrongInsetsAreErrors(t *testing.T) {
	for side := range 4 {
		for _, n := range []int64{-1, high + 1, math.MinInt64, math.MaxInt64} {
			by := [4]int64{1, 1, 1, 1}
			by[side] = n
			if got, err := rect.Inset(box(low, low, 9, 9), by); got != (api.Rect{}) || err != api.ErrRect {
				t.Errorf("Inset by %d = %v, %d", by, got, err)
			}
		}
	}
	for _, c := range []struct {
		r  api.Rect
		by [4]int64
	}{
		{box(high, 0, 9, 9), [4]int64{0, 0, 0, 1}},
		{box(0, high, 9, 9), [4]int64{1, 0, 0, 0}},
		{box(1, 0, high, 9), [4]int64{0, 0, 0, high}},
		{box(0, 1, 9, high), [4]int64{high, 0, 0, 0}},
	} {
		if got, err := rect.Inset(c.r, c.by); got != (api.Rect{}) || err != api.ErrRect {
			t.Errorf("Inset(%v, %d) = %v, %d", c.r, c.by, got, err)
		}
	}
}

// P2.1 and P2.3, under the rule that arguments stay as they are, and their spare capacity too.
func TestArgumentsStayAsTheyAre(t *testing.T) {
	l := []api.Rect{box(1, 0, 1, 2), {}, box(0, 0, 1, 2), box(9, 9, 9, 9), box(8, 8, 8, 8)}
	before := slices.Clone(l)
	if got, err := rect.Around(l[:3]...); got != box(0, 0, 2, 2) || err != api.OK {
		t.Errorf("Around: %v, %d", got, err)
	}
	if got, err := rect.Tiles(box(0, 0, 2, 2), l[:3]); !got || err != api.OK {
		t.Errorf("Tiles: %t, %d", got, err)
	}
	if !slices.Equal(l, before) {
		t.Errorf("%v became %v", before, l)
	}
}
