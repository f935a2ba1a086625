package contest_test

import (
	"math"
	"slices"
	"testing"

	"purfling/api"
	"purfling/contest"
)

const (
	px   = 1073741824
	lane = 1000000
)

// side has its numbers in the order in which they count.
func side(style int, width int64, by int, row int, col int, color uint32) api.Side {
	return api.Side{Line: api.Line{Style: style, Width: width, Color: color}, By: by, Row: row, Col: col}
}

func solid(width int64) api.Side { return side(api.BSolid, width, 0, 0, 0, 0) }

// numbers answers the same numbers below a bound on every run, so that a test that fails fails again.
type numbers uint64

func (n *numbers) below(bound int64) int64 {
	*n = *n*6364136223846793005 + 1442695040888963407
	return int64(uint64(*n)>>1) % bound
}

// side is valid, and much like any other one, so that all criteria have to decide now and then.
func (n *numbers) side() api.Side {
	s := side(int(n.below(10)), n.below(3), int(n.below(6)), int(n.below(2)), int(n.below(2)), uint32(n.below(2)))
	if n.below(3) == 0 {
		s.By = 0
	}
	if s.Line.Style == api.BNone || s.Line.Style == api.BHidden {
		s.Line.Width = 0
	}
	return s
}

func (n *numbers) sides(many int) []api.Side {
	l := make([]api.Side, many)
	for i := range l {
		l[i] = n.side()
	}
	return l
}

func (n *numbers) shuffled(l []api.Side) []api.Side {
	l = slices.Clone(l)
	for i := range l {
		j := i + int(n.below(int64(len(l)-i)))
		l[i], l[j] = l[j], l[i]
	}
	return l
}

// few keeps messages short.
func few[E any](l []E) []E { return l[:min(len(l), 12)] }

// wins goes through the chapter's criteria one by one.
func wins(a api.Side, b api.Side) bool {
	if (a.Line.Style == api.BHidden) != (b.Line.Style == api.BHidden) {
		return a.Line.Style == api.BHidden
	}
	if (a.Line.Style == api.BNone) != (b.Line.Style == api.BNone) {
		return b.Line.Style == api.BNone
	}
	if a.Line.Width != b.Line.Width {
		return a.Line.Width > b.Line.Width
	}
	if a.Line.Style != b.Line.Style {
		order := []int{api.BDouble, api.BSolid, api.BDashed, api.BDotted, api.BRidge, api.BOutset, api.BGroove, api.BInset}
		return slices.Index(order, a.Line.Style) < slices.Index(order, b.Line.Style)
	}
	if a.By != b.By {
		return a.By < b.By
	}
	if a.Row != b.Row {
		return a.Row < b.Row
	}
	if a.Col != b.Col {
		return a.Col < b.Col
	}
	return a.Line.Color < b.Line.Color
}

// sorted takes out, time and again, a side against which no other one wins.
func sorted(l []api.Side) []api.Side {
	var list []api.Side
	for l = slices.Clone(l); len(l) > 0; {
		best := 0
		for i := range l {
			if wins(l[i], l[best]) {
				best = i
			}
		}
		list = append(list, l[best])
		l = slices.Delete(l, best, best+1)
	}
	return list
}

func wantWins(t *testing.T, a api.Side, b api.Side, want bool) {
	t.Helper()
	if got, err := contest.Wins(a, b); got != want || err != api.OK {
		t.Errorf("Wins(%v, %v) = %t, %d, want %t", a, b, got, err, want)
	}
}

func wantWinner(t *testing.T, want api.Side, l ...api.Side) {
	t.Helper()
	if got, err := contest.Winner(l...); got != want || err != api.OK {
		t.Errorf("Winner of %d: %v = %v, %d, want %v", len(l), few(l), got, err, want)
	}
}

func wantSorted(t *testing.T, l []api.Side, want []api.Side) {
	t.Helper()
	if got, err := contest.Sorted(l); !slices.Equal(got, want) || err != api.OK {
		t.Errorf("Sorted of %d: %v = %d: %v, %d, want %d: %v", len(l), few(l), len(got), few(got), err, len(want), few(want))
	}
}

// wantWrong holds the functions to sides that are not all valid.
func wantWrong(t *testing.T, name string, l ...api.Side) {
	t.Helper()
	if got, err := contest.Winner(l...); got != (api.Side{}) || err != api.ErrSide {
		t.Errorf("%s: Winner of %d: %v = %v, %d", name, len(l), few(l), got, err)
	}
	if got, err := contest.Sorted(l); len(got) > 0 || err != api.ErrSide {
		t.Errorf("%s: Sorted of %d: %v = %v, %d", name, len(l), few(l), few(got), err)
	}
}

// ladder has each side before all those against which it wins. Where a criterion decides between two that follow each other, all later ones speak for the second one.
func ladder() []api.Side {
	return []api.Side{
		side(api.BHidden, 0, 0, 0, 0, 0),
		side(api.BHidden, 0, 0, 0, 0, 9),
		side(api.BHidden, 0, 0, 0, 1, 0),
		side(api.BHidden, 0, 0, 0, lane, 9),
		side(api.BHidden, 0, 0, 1, 0, 0),
		side(api.BHidden, 0, 0, lane, 1, 9),
		side(api.BHidden, 0, 1, 0, 0, 0),
		side(api.BHidden, 0, 5, 9, 9, math.MaxUint32),
		side(api.BInset, px, 5, 9, 9, 9),
		side(api.BDouble, px-1, 0, 0, 0, 0),
		side(api.BInset, px-1, 5, 9, 9, 9),
		side(api.BDouble, 7, 5, 9, 9, 9),
		side(api.BSolid, 7, 4, 8, 8, 8),
		side(api.BDashed, 7, 3, 7, 7, 7),
		side(api.BDotted, 7, 2, 6, 6, 6),
		side(api.BRidge, 7, 2, 5, 5, 5),
		side(api.BOutset, 7, 1, 4, 4, 4),
		side(api.BGroove, 7, 1, 3, 3, 3),
		side(api.BInset, 7, 0, 2, 2, 2),
		side(api.BInset, 7, 1, 1, 1, 1),
		side(api.BInset, 7, 2, 0, 0, 0),
		side(api.BSolid, 6, api.ByCell, 9, 9, 9),
		side(api.BSolid, 6, api.ByRow, 8, 8, 8),
		side(api.BSolid, 6, api.ByRowGroup, 7, 7, 7),
		side(api.BSolid, 6, api.ByCol, 6, 6, 6),
		side(api.BSolid, 6, api.ByColGroup, 5, 5, 5),
		side(api.BSolid, 6, api.ByTable, 3, 9, 9),
		side(api.BSolid, 6, api.ByTable, 4, 3, 9),
		side(api.BSolid, 6, api.ByTable, 4, 4, 8),
		side(api.BSolid, 6, api.ByTable, 4, 4, 9),
		side(api.BSolid, 6, api.ByTable, 4, 4, 1<<31),
		side(api.BSolid, 6, api.ByTable, 4, 4, math.MaxUint32),
		side(api.BInset, 1, 5, 9, 9, 9),
		side(api.BDouble, 0, 5, 9, 9, 9),
		side(api.BInset, 0, 5, lane, lane, math.MaxUint32),
		side(api.BNone, 0, 0, 0, 0, 0),
		side(api.BNone, 0, 0, 0, 0, 1),
		side(api.BNone, 0, 0, 0, 1, 0),
		side(api.BNone, 0, 0, 1, 0, 0),
		side(api.BNone, 0, 1, 0, 0, 0),
		side(api.BNone, 0, 5, lane, lane, math.MaxUint32),
	}
}

// P11.1: all styles, and the bounds of all numbers; no colour is wrong.
func TestRight(t *testing.T) {
	l := ladder()
	for style := api.BNone; style <= api.BInset; style++ {
		l = append(l, side(style, 0, 0, 0, 0, 0), side(style, 0, api.ByTable, lane, lane, math.MaxUint32))
		if style != api.BNone && style != api.BHidden {
			l = append(l, side(style, 1, 0, 0, 0, 0), side(style, px-1, 0, 0, 0, 0), side(style, px, 0, 0, 0, 0))
		}
	}
	for by := api.ByCell; by <= api.ByTable; by++ {
		l = append(l, side(api.BSolid, 1, by, 0, 0, 0), side(api.BNone, 0, by, 0, 0, 0))
	}
	for _, at := range []int{0, 1, 2, 10000, 65536, lane - 1, lane} {
		l = append(l, side(api.BSolid, 1, 0, at, 0, 0), side(api.BSolid, 1, 0, 0, at, 0), side(api.BSolid, 1, 0, at, at, 0))
	}
	for _, color := range []uint32{0, 1, 1 << 24, math.MaxInt32, 1 << 31, math.MaxUint32} {
		l = append(l, side(api.BSolid, 1, 0, 0, 0, color), side(api.BHidden, 0, 0, 0, 0, color))
	}
	for _, s := range l {
		if !contest.Right(s) {
			t.Errorf("%v is not Right", s)
		}
		wantWins(t, s, s, false)
		wantWinner(t, s, s)
		wantSorted(t, []api.Side{s}, []api.Side{s})
	}
}

// wrongSides have one wrong number, or one that another one makes wrong, or some that could make up for each other.
func wrongSides() []api.Side {
	var l []api.Side
	for _, n := range []int64{math.MinInt64, math.MinInt64 + 1, -1 << 32, -px, -lane, -10, -2, -1, px + 1, px + 2, 1 << 31, 1 << 32, 1<<32 + 1, math.MaxInt64 - 1, math.MaxInt64} {
		for style := api.BNone; style <= api.BInset; style++ {
			l = append(l, side(style, n, 0, 0, 0, 0))
		}
		l = append(l,
			side(int(n), 0, 0, 0, 0, 0), side(int(n), 1, 0, 0, 0, 0), side(int(n), n, 0, 0, 0, 0),
			side(api.BSolid, 1, int(n), 0, 0, 0), side(api.BSolid, 1, 0, int(n), 0, 0), side(api.BSolid, 1, 0, 0, int(n), 0),
			side(api.BNone, 0, int(n), 0, 0, 0), side(api.BHidden, 0, 0, int(n), 0, 0), side(api.BHidden, 0, 0, 0, int(n), 0))
	}
	for _, style := range []int{api.BNone, api.BHidden} {
		l = append(l, side(style, 1, 0, 0, 0, 0), side(style, 2, 0, 0, 0, 0), side(style, px, 0, 0, 0, 0))
	}
	for _, style := range []int{api.BInset + 1, api.BInset + 2, 256, 258} {
		l = append(l, side(style, 0, 0, 0, 0, 0), side(style, 1, 0, 0, 0, 0))
	}
	for _, by := range []int{api.ByTable + 1, api.ByTable + 2, 256, 257} {
		l = append(l, side(api.BSolid, 1, by, 0, 0, 0), side(api.BNone, 0, by, 0, 0, 0))
	}
	for _, at := range []int{lane + 1, lane + 2, px} {
		l = append(l, side(api.BSolid, 1, 0, at, 0, 0), side(api.BSolid, 1, 0, 0, at, 0), side(api.BNone, 0, 0, at, 0, 0), side(api.BHidden, 0, 0, 0, at, 0))
	}
	return append(l, side(api.BSolid, 1, 0, -1, 1, 0), side(api.BSolid, 1, 0, 1, -1, 0), side(-1, -1, -1, -1, -1, math.MaxUint32), side(10, px+1, 6, lane+1, lane+1, 0))
}

// P11.1 and P11.2: a wrong side is none, and makes all an error, wherever it stands and whatever the others are, even where another one has won already.
func TestWrongSides(t *testing.T) {
	hidden, none := side(api.BHidden, 0, 0, 0, 0, 0), side(api.BNone, 0, 5, lane, lane, math.MaxUint32)
	for _, wrong := range wrongSides() {
		if contest.Right(wrong) {
			t.Errorf("%v is Right", wrong)
		}
		for _, other := range []api.Side{hidden, solid(1), none, wrong} {
			for _, l := range [][2]api.Side{{wrong, other}, {other, wrong}} {
				if got, err := contest.Wins(l[0], l[1]); got || err != api.ErrSide {
					t.Errorf("Wins(%v, %v) = %t, %d", l[0], l[1], got, err)
				}
				wantWrong(t, "two", l[:]...)
			}
			wantWrong(t, "the middle one", other, wrong, other)
			wantWrong(t, "the last one", other, other, wrong)
		}
		wantWrong(t, "one", wrong)
		for at := range len(ladder()) + 1 {
			wantWrong(t, "one more", slices.Insert(ladder(), at, wrong)...)
		}
		wantWrong(t, "the last one of 10000", append(slices.Repeat([]api.Side{hidden}, 9999), wrong)...)
	}
}

// P11.1: no sides have no winner, and P11.2: they are sorted.
func TestNoSides(t *testing.T) {
	for _, l := range [][]api.Side{nil, {}, ladder()[:0]} {
		if got, err := contest.Winner(l...); got != (api.Side{}) || err != api.ErrSide {
			t.Errorf("Winner() = %v, %d", got, err)
		}
		wantSorted(t, l, nil)
	}
}

// P11.1: the chapter's examples, and the document's.
func TestExamples(t *testing.T) {
	double, hidden := side(api.BDouble, 1, 0, 0, 0, 0), side(api.BHidden, 0, 0, 0, 0, 0)
	wantWinner(t, hidden, solid(2), double, hidden)
	wantWinner(t, solid(2), solid(2), double)
	wantWinner(t, solid(2), side(api.BSolid, 2, api.ByTable, 0, 0, 0), solid(2))
}

// P11.1 and P11.2: each criterion decides where those before it don't, and whatever those after it say.
func TestLadder(t *testing.T) {
	l := ladder()
	for i, a := range l {
		for j, b := range l {
			wantWins(t, a, b, i < j)
			wantWinner(t, l[min(i, j)], a, b)
		}
		wantWinner(t, a, l[i:]...)
	}
	wantSorted(t, l, l)
	backwards := slices.Clone(l)
	slices.Reverse(backwards)
	wantWinner(t, l[0], backwards...)
	wantSorted(t, backwards, l)
}

// P11.1: two sides that differ in one thing: the one whose number comes earlier wins.
func TestOneThing(t *testing.T) {
	for _, s := range []api.Side{solid(1), side(api.BInset, px, 5, lane, lane, math.MaxUint32), side(api.BHidden, 0, 3, 2, 1, 0), side(api.BNone, 0, 3, 2, 1, 0)} {
		drawn := s.Line.Style != api.BNone && s.Line.Style != api.BHidden
		for _, c := range [][2]int{{0, 1}, {0, 5}, {1, 2}, {2, 3}, {3, 4}, {4, 5}} {
			a, b := s, s
			a.By, b.By = c[0], c[1]
			wantPair(t, a, b)
			a, b = s, s
			a.Line.Style, b.Line.Style = c[0]+2, c[1]+2
			if drawn {
				wantPair(t, a, b)
			}
		}
		for _, c := range [][2]int{{0, 1}, {0, lane}, {1, 2}, {9, 10}, {99, 100}, {255, 256}, {65535, 65536}, {lane - 1, lane}} {
			a, b := s, s
			a.Row, b.Row = c[0], c[1]
			wantPair(t, a, b)
			a, b = s, s
			a.Col, b.Col = c[0], c[1]
			wantPair(t, a, b)
			a, b = s, s
			a.Line.Width, b.Line.Width = int64(c[1]), int64(c[0])
			if drawn {
				wantPair(t, a, b)
			}
		}
		for _, c := range [][2]uint32{{0, 1}, {0, math.MaxUint32}, {1, 2}, {255, 256}, {math.MaxInt32, 1 << 31}, {1 << 31, math.MaxUint32}, {math.MaxUint32 - 1, math.MaxUint32}} {
			a, b := s, s
			a.Line.Color, b.Line.Color = c[0], c[1]
			wantPair(t, a, b)
		}
	}
}

// wantPair holds two sides to the first one's winning.
func wantPair(t *testing.T, a api.Side, b api.Side) {
	t.Helper()
	wantWins(t, a, b, true)
	wantWins(t, b, a, false)
	wantWinner(t, a, a, b)
	wantWinner(t, a, b, a)
	wantSorted(t, []api.Side{b, a}, []api.Side{a, b})
	wantSorted(t, []api.Side{b, a, b, a, a}, []api.Side{a, a, a, b, b})
}

// every has each style with some widths, and some of all else: 26 * 24 sides, all different.
func every() []api.Side {
	var l []api.Side
	for style := api.BNone; style <= api.BInset; style++ {
		for _, width := range []int64{0, 1, px} {
			if width > 0 && (style == api.BNone || style == api.BHidden) {
				continue
			}
			for _, by := range []int{api.ByRow, api.ByTable} {
				for at := range 4 {
					for _, color := range []uint32{0, 7, math.MaxUint32} {
						l = append(l, side(style, width, by, at/2, at%2*lane, color))
					}
				}
			}
		}
	}
	return l
}

// P11.1 and P11.3: of two different sides exactly one wins, the one that the chapter's words say.
func TestPairs(t *testing.T) {
	for i, a := range every() {
		for j, b := range every() {
			wantWins(t, a, b, i != j && wins(a, b))
			if i != j && wins(a, b) == wins(b, a) {
				t.Fatalf("the test's own words let both or neither win: %v, %v", a, b)
			}
		}
		if t.Failed() {
			return
		}
	}
}

// P11.3: what wins against a second side wins against all against which that one wins.
func TestTransitive(t *testing.T) {
	var n numbers = 1
	l := n.sides(150)
	beats := make([][]bool, len(l))
	for i, a := range l {
		for _, b := range l {
			first, err1 := contest.Wins(a, b)
			second, err2 := contest.Wins(b, a)
			if err1 != api.OK || err2 != api.OK || first && second || (first || second) == (a == b) {
				t.Fatalf("Wins(%v, %v) = %t, %d, the other way round %t, %d", a, b, first, err1, second, err2)
			}
			beats[i] = append(beats[i], first)
		}
	}
	for i := range l {
		for j := range l {
			for k := range l {
				if beats[i][j] && beats[j][k] && !beats[i][k] {
					t.Fatalf("%v wins against %v, and this against %v, but not the first against the last", l[i], l[j], l[k])
				}
			}
		}
	}
}

// P11.1 and P11.3: in whatever order sides are, the same one wins, and sorted they are the same.
func TestAllOrders(t *testing.T) {
	var n numbers = 2
	for many := range 6 {
		for range 40 {
			l := n.sides(many + 1)
			want := sorted(l)
			orders(l, 0, func(l []api.Side) {
				wantWinner(t, want[0], l...)
				wantSorted(t, l, want)
			})
			if t.Failed() {
				return
			}
		}
	}
}

// orders visits all orders of what is behind the first ones.
func orders(l []api.Side, first int, visit func(l []api.Side)) {
	if first == len(l) {
		visit(l)
	}
	for i := first; i < len(l); i++ {
		l[first], l[i] = l[i], l[first]
		orders(l, first+1, visit)
		l[first], l[i] = l[i], l[first]
	}
}

// P11.1, P11.2 and P11.3: random lists, with sides that come again, are as the chapter words it, also shuffled.
func TestRandom(t *testing.T) {
	var n numbers = 3
	for range 600 {
		l := n.sides(1 + int(n.below(80)))
		if n.below(2) == 0 {
			l = append(l, l[:n.below(int64(len(l)))]...)
		}
		want := sorted(l)
		for range 3 {
			wantWinner(t, want[0], l...)
			wantSorted(t, l, want)
			l = n.shuffled(l)
		}
		if t.Failed() {
			return
		}
	}
}

// P11.1 and P11.2: many sides, each of which wins against the one before it, or is the same, or loses.
func TestMany(t *testing.T) {
	const many = 300000
	rising, same := make([]api.Side, many), slices.Repeat([]api.Side{solid(3)}, many)
	for i := range rising {
		rising[i] = solid(int64(i))
	}
	falling := slices.Clone(rising)
	slices.Reverse(falling)
	wantWinner(t, solid(many-1), rising...)
	wantWinner(t, solid(many-1), falling...)
	wantWinner(t, solid(3), same...)
	wantWinner(t, solid(4), append(same, solid(4))...)
	wantWinner(t, solid(3), append(same, solid(2))...)
	wantSorted(t, rising, falling)
	wantSorted(t, falling, falling)
	wantSorted(t, same, same)
	wantSorted(t, append(same, solid(4)), append([]api.Side{solid(4)}, same...))
}

// P11.2: halves written out, at the bounds of what a number holds too.
func TestHalf(t *testing.T) {
	for _, c := range []struct{ width, first, second int64 }{
		{5, 3, 2}, {0, 0, 0}, {1, 1, 0}, {2, 1, 1}, {3, 2, 1}, {4, 2, 2}, {6, 3, 3}, {99, 50, 49},
		{-1, 0, 0}, {-2, 0, 0}, {-3, 0, 0}, {-5, 0, 0}, {-px, 0, 0}, {math.MinInt64, 0, 0}, {math.MinInt64 + 1, 0, 0},
		{px - 1, px / 2, px/2 - 1}, {px, px / 2, px / 2}, {px + 1, px/2 + 1, px / 2},
		{1<<53 + 1, 1<<52 + 1, 1 << 52},
		{math.MaxInt64 - 1, 1<<62 - 1, 1<<62 - 1}, {math.MaxInt64, 1 << 62, 1<<62 - 1},
	} {
		if first, second := contest.Half(c.width, true), contest.Half(c.width, false); first != c.first || second != c.second {
			t.Errorf("Half(%d) = %d, %d, want %d, %d", c.width, first, second, c.first, c.second)
		}
	}
}

// P11.2: the two halves of a width are the whole of it, and the first one has no more than one unit more.
func TestHalves(t *testing.T) {
	var n numbers = 4
	for range 10000 {
		width := n.below(math.MaxInt64) >> n.below(63)
		first, second := contest.Half(width, true), contest.Half(width, false)
		if first+second != width || first-second != width%2 {
			t.Fatalf("Half(%d) = %d, %d", width, first, second)
		}
	}
}

// P11.1 and P11.2: nothing that is given is written to, in its spare capacity neither, and an answer shares memory with nothing.
func TestMemory(t *testing.T) {
	for _, many := range []int{0, 1, 2, 40} {
		whole := ladder()
		slices.Reverse(whole)
		before := slices.Clone(whole)
		l := whole[:many]
		answer, _ := contest.Sorted(l)
		contest.Winner(l...)
		want := slices.Clone(answer)
		spare := answer[:cap(answer)]
		for i := range spare {
			spare[i] = solid(-7)
		}
		if !slices.Equal(whole, before) {
			t.Errorf("%d sides were written to, or share memory with the answer", many)
		}
		wantSorted(t, l, want)
	}
}
