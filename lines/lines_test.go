package lines_test

import (
	"math"
	"reflect"
	"slices"
	"testing"

	"purfling/api"
	"purfling/lines"
)

const px = 1073741824

// x is a text with a blank, a height of lines, and words.
func x(blank int64, high int64, words ...int64) api.Node {
	return api.Node{Kind: api.KText, Words: words, Blank: blank, High: high}
}

// to has the lines that end there, one after the other.
func to(ends ...int) [][2]int {
	var l [][2]int
	from := 0
	for _, end := range ends {
		l = append(l, [2]int{from, end})
		from = end
	}
	return l
}

// ones has n lines of one word each.
func ones(n int) [][2]int {
	var l [][2]int
	for at := range n {
		l = append(l, [2]int{at, at + 1})
	}
	return l
}

func wantWide(t *testing.T, n api.Node, from int, to int, want int64) {
	t.Helper()
	if got, err := lines.Wide(n, from, to); got != want || err != api.OK {
		t.Errorf("Wide from %d to %d of %d words = %d, %d, want %d", from, to, len(n.Words), got, err, want)
	}
}

func wantLines(t *testing.T, n api.Node, width int64, want [][2]int) {
	t.Helper()
	if got, err := lines.Break(n, width); !slices.Equal(got, want) || err != api.OK {
		t.Errorf("Break at %d of %d words has %d lines %v, %d, want %d lines %v", width, len(n.Words), len(got), few(got), err, len(want), few(want))
	}
}

// few keeps messages short.
func few(l [][2]int) [][2]int { return l[:min(len(l), 20)] }

func wantBounds(t *testing.T, n api.Node, least int64, most int64) {
	t.Helper()
	if got, err := lines.Least(n); got != least || err != api.OK {
		t.Errorf("Least of %d words = %d, %d, want %d", len(n.Words), got, err, least)
	}
	if got, err := lines.Most(n); got != most || err != api.OK {
		t.Errorf("Most of %d words = %d, %d, want %d", len(n.Words), got, err, most)
	}
}

func wantBox(t *testing.T, n api.Node, width int64, want api.Box) {
	t.Helper()
	if got, err := lines.Box(n, width); got != want || err != api.OK {
		t.Errorf("Box at %d of %d words = %v, %d, want %v", width, len(n.Words), got, err, want)
	}
}

// based is a box with a baseline.
func based(least int64, most int64, high int64, base int64) api.Box {
	return api.Box{Min: least, Max: most, High: high, Base: base, HasBase: true}
}

// P8.1: the example of the chapter, and others written out.
func TestWide(t *testing.T) {
	n := x(1, 10, 3, 4, 5, 9, 1)
	for _, c := range []struct {
		from, to int
		want     int64
	}{
		{1, 3, 10}, {0, 1, 3}, {1, 2, 4}, {4, 5, 1}, {0, 2, 8}, {0, 3, 14}, {0, 4, 24}, {0, 5, 26}, {1, 5, 22}, {3, 5, 11}, {2, 4, 15},
		{0, 0, 0}, {1, 1, 0}, {4, 4, 0}, {5, 5, 0},
	} {
		wantWide(t, n, c.from, c.to, c.want)
	}
	wantWide(t, x(0, 0), 0, 0, 0)
	wantWide(t, x(px, px), 0, 0, 0)
	wantWide(t, x(px, px, 0), 0, 1, 0)
	wantWide(t, x(px, px, 0, 0), 0, 2, px)
	wantWide(t, x(0, px, 7, 8, 9), 0, 3, 24)
	wantWide(t, x(100, 0, 7, 8, 9), 0, 3, 224)
	wantWide(t, x(100, 0, 0, 0, 0, 0), 1, 4, 200)
}

// P8.1: the words are those from one index up to another one, of which there is none before the first, and none behind the end.
func TestWrongIndexes(t *testing.T) {
	far := []int{math.MinInt, math.MinInt + 1, -1 << 32, -6, -5, -2, -1, 0, 1, 2, 3, 4, 5, 6, 7, 10000, 10001, 1 << 32, 1<<32 + 1, math.MaxInt - 1, math.MaxInt}
	for _, n := range []api.Node{x(1, 10), x(1, 10, 3), x(1, 10, 3, 4, 5, 9, 1)} {
		for _, from := range far {
			for _, to := range far {
				got, err := lines.Wide(n, from, to)
				right := 0 <= from && from <= to && to <= len(n.Words)
				if right != (err == api.OK) || !right && (got != 0 || err != api.ErrStack) {
					t.Errorf("Wide from %d to %d of %d words = %d, %d", from, to, len(n.Words), got, err)
				}
			}
		}
	}
	roomy := x(1, 10, 3, 4, 5, 9, 1)
	roomy.Words = roomy.Words[:2]
	if got, err := lines.Wide(roomy, 0, 3); got != 0 || err != api.ErrStack {
		t.Errorf("Wide with a word of the spare capacity = %d, %d", got, err)
	}
}

// wantNone holds all functions to what is no text.
func wantNone(t *testing.T, name string, n api.Node) {
	t.Helper()
	if lines.Right(n) {
		t.Errorf("%s: Right", name)
	}
	for _, at := range [][2]int{{0, 0}, {0, 1}, {0, len(n.Words)}, {1, 0}, {-1, 1}, {0, len(n.Words) + 1}} {
		if got, err := lines.Wide(n, at[0], at[1]); got != 0 || err != api.ErrStack {
			t.Errorf("%s: Wide(%v) = %d, %d", name, at, got, err)
		}
	}
	if got, err := lines.Least(n); got != 0 || err != api.ErrStack {
		t.Errorf("%s: Least = %d, %d", name, got, err)
	}
	if got, err := lines.Most(n); got != 0 || err != api.ErrStack {
		t.Errorf("%s: Most = %d, %d", name, got, err)
	}
	for _, width := range []int64{math.MinInt64, -1, 0, 1, 100, math.MaxInt64} {
		if got, err := lines.Break(n, width); len(got) > 0 || err != api.ErrStack {
			t.Errorf("%s: Break at %d = %v, %d", name, width, few(got), err)
		}
		if got, err := lines.Box(n, width); got != (api.Box{}) || err != api.ErrStack {
			t.Errorf("%s: Box at %d = %v, %d", name, width, got, err)
		}
	}
}

// P8.1 to P8.3: what is no text, at the bounds and far beyond them.
func TestNoText(t *testing.T) {
	for _, kind := range []int{math.MinInt, -1, 0, 2, 3, 4, 5, 6, 7, 8, 9, 10, 11, 1<<32 + 1, math.MaxInt} {
		wantNone(t, "a kind, and nothing else", api.Node{Kind: kind})
		wantNone(t, "a kind, and words", api.Node{Kind: kind, Words: []int64{3, 4}, Blank: 1, High: 10})
	}
	for _, wrong := range []int64{math.MinInt64, math.MinInt64 + 1, -px, -2, -1, px + 1, px + 2, 1 << 32, 1 << 40, math.MaxInt64 - 1, math.MaxInt64} {
		wantNone(t, "a blank", x(wrong, 10, 3, 4))
		wantNone(t, "a blank of no words", x(wrong, 10))
		wantNone(t, "a height", x(1, wrong, 3, 4))
		wantNone(t, "a height of no words", x(1, wrong))
		wantNone(t, "one word", x(1, 10, wrong))
		for at := range 5 {
			n := x(1, 10, 3, 4, 5, 9, 1)
			n.Words[at] = wrong
			wantNone(t, "a word of five", n)
		}
		n := x(1, 10, make([]int64, 10000)...)
		n.Words[9999] = wrong
		wantNone(t, "the last word of 10000", n)
	}
	for _, many := range []int{10001, 10002, 65536, 100000} {
		wantNone(t, "too many words", x(1, 10, make([]int64, many)...))
	}
	wantNone(t, "two wrong lengths that add up to a right one", x(-1, px+1, -1, px+1))
}

// P8.1: texts at the bounds.
func TestRight(t *testing.T) {
	for _, n := range []api.Node{
		x(0, 0), x(px, 0), x(0, px), x(px, px), x(px-1, px-1, px-1),
		x(0, 0, 0), x(0, 0, px), x(px, px, px, 0, px), x(1, 10, 3, 4, 5, 9, 1), x(5, 5, []int64{}...),
		x(px, px, slices.Repeat([]int64{px}, 10000)...), x(0, 0, make([]int64, 10000)...), x(1, 1, make([]int64, 9999)...),
	} {
		if !lines.Right(n) {
			t.Errorf("a text of %d words, blank %d, height %d is not Right", len(n.Words), n.Blank, n.High)
		}
	}
}

// P8.1 to P8.3: the Kids and the style of a text are not examined, and change nothing.
func TestOtherFields(t *testing.T) {
	styles := []api.Style{
		{Width: api.Size{Kind: 9, N: -1}, Align: 77},
		{Width: api.Size{Kind: api.SizeLen, N: 4}, Height: api.Size{Kind: api.SizeLen, N: 999}},
		{Pad: [4]int64{5, 5, 5, 5}, Border: [4]api.Line{{Style: api.BSolid, Width: 3}}, ColSpan: 1001, RowSpan: -1001, Below: true},
		{Pad: [4]int64{math.MinInt64, math.MaxInt64, -1, px + 1}},
	}
	for _, style := range styles {
		for _, kids := range [][]int{nil, {}, {1}, {0, 0, -1, math.MaxInt}} {
			n := x(1, 10, 3, 4, 5, 9, 1)
			n.Style, n.Kids = style, kids
			if !lines.Right(n) {
				t.Errorf("not Right with the style %v and the Kids %v", style, kids)
			}
			wantWide(t, n, 1, 3, 10)
			wantBounds(t, n, 9, 26)
			wantLines(t, n, 8, to(2, 3, 4, 5))
			wantBox(t, n, 25, based(9, 26, 20, 8))
		}
	}
}

// P8.2: the examples of the chapter, and others written out, at the widths where lines change, and beside them.
func TestBreak(t *testing.T) {
	for _, c := range []struct {
		n     api.Node
		width int64
		want  [][2]int
	}{
		{x(1, 0, 3, 4, 5), 8, to(2, 3)},
		{x(1, 10, 3, 4, 5, 9, 1), 8, to(2, 3, 4, 5)},
		{x(1, 10, 3, 4, 5, 9, 1), 7, to(1, 2, 3, 4, 5)},
		{x(1, 10, 3, 4, 5, 9, 1), 9, to(2, 3, 4, 5)},
		{x(1, 10, 3, 4, 5, 9, 1), 10, to(2, 3, 4, 5)},
		{x(1, 10, 3, 4, 5, 9, 1), 11, to(2, 3, 5)},
		{x(1, 10, 3, 4, 5, 9, 1), 13, to(2, 3, 5)},
		{x(1, 10, 3, 4, 5, 9, 1), 14, to(3, 5)},
		{x(1, 10, 3, 4, 5, 9, 1), 23, to(3, 5)},
		{x(1, 10, 3, 4, 5, 9, 1), 24, to(4, 5)},
		{x(1, 10, 3, 4, 5, 9, 1), 25, to(4, 5)},
		{x(1, 10, 3, 4, 5, 9, 1), 26, to(5)},
		{x(1, 10, 3, 4, 5, 9, 1), 27, to(5)},
		{x(1, 10, 3, 4, 5, 9, 1), math.MaxInt64, to(5)},
		{x(1, 10, 3, 4, 5, 9, 1), 0, ones(5)},
		{x(1, 10, 3, 4, 5, 9, 1), -1, ones(5)},
		{x(1, 10, 3, 4, 5, 9, 1), math.MinInt64, ones(5)},
		{x(0, 10, 3, 4, 5, 9, 1), 7, to(2, 3, 4, 5)},
		{x(0, 10, 3, 4, 5, 9, 1), 10, to(2, 3, 5)},
		{x(0, 10, 3, 4, 5, 9, 1), 22, to(5)},
		{x(0, 10, 3, 4, 5, 9, 1), 21, to(4, 5)},
		{x(5, 0, 4), 4, to(1)},
		{x(5, 0, 4), 3, to(1)},
		{x(5, 0, 4), 9, to(1)},
		{x(5, 0, 4, 0), 8, to(1, 2)},
		{x(5, 0, 4, 0), 9, to(2)},
		{x(5, 0, 0, 4), 8, to(1, 2)},
		{x(5, 0, 0, 4), 9, to(2)},
		{x(0, 0, 4, 0, 0), 3, to(1, 3)},
		{x(0, 0, 4, 0, 0), 4, to(3)},
		{x(0, 0, 0, 0, 4, 0, 0), 3, to(2, 3, 5)},
		{x(0, 0, 0, 0, 4, 0, 0), 4, to(5)},
		{x(0, 0, 0, 0, 0), 0, to(3)},
		{x(0, 0, 0, 0, 0), -1, ones(3)},
		{x(1, 0, 0, 0, 0), 0, ones(3)},
		{x(1, 0, 0, 0, 0), 1, to(2, 3)},
		{x(1, 0, 0, 0, 0), 2, to(3)},
		{x(1, 0, 9, 1, 1, 1, 9, 1, 9), 5, to(1, 4, 5, 6, 7)},
		{x(1, 0, 9, 1, 1, 1, 9, 1, 9), 4, to(1, 3, 4, 5, 6, 7)},
		{x(px, px, px, px, px), 3*px - 1, ones(3)},
		{x(px, px, px, px, px), 3 * px, to(2, 3)},
		{x(px, px, px, px, px), 5*px - 1, to(2, 3)},
		{x(px, px, px, px, px), 5 * px, to(3)},
	} {
		wantLines(t, c.n, c.width, c.want)
	}
	for _, width := range []int64{math.MinInt64, -1, 0, 1, 100, math.MaxInt64} {
		wantLines(t, x(1, 10), width, nil)
		wantLines(t, x(0, 0, []int64{}...), width, nil)
	}
}

// P8.2: the widest word and all words together, wherever the widest stands.
func TestLeastAndMost(t *testing.T) {
	for _, c := range []struct {
		n           api.Node
		least, most int64
	}{
		{x(1, 10, 3, 4, 5, 9, 1), 9, 26},
		{x(1, 10, 9, 1, 2), 9, 14},
		{x(1, 10, 1, 2, 9), 9, 14},
		{x(0, 10, 7, 7), 7, 14},
		{x(3, 10, 7, 7), 7, 17},
		{x(3, 10, 7), 7, 7},
		{x(3, 10, 0), 0, 0},
		{x(3, 10, 0, 0, 0), 0, 6},
		{x(30, 10, 1, 2), 2, 33},
		{x(3, 10), 0, 0},
		{x(px, px), 0, 0},
		{x(px, px, px, 0, px), px, 4 * px},
	} {
		wantBounds(t, c.n, c.least, c.most)
	}
}

// P8.3: the example of the chapter, and others written out.
func TestBox(t *testing.T) {
	for _, c := range []struct {
		n     api.Node
		width int64
		want  api.Box
	}{
		{x(1, 10, 3, 4, 5, 9, 1), 25, based(9, 26, 20, 8)},
		{x(1, 10, 3, 4, 5, 9, 1), 26, based(9, 26, 10, 8)},
		{x(1, 10, 3, 4, 5, 9, 1), 8, based(9, 26, 40, 8)},
		{x(1, 10, 3, 4, 5, 9, 1), 0, based(9, 26, 50, 8)},
		{x(1, 10, 3, 4, 5, 9, 1), math.MinInt64, based(9, 26, 50, 8)},
		{x(1, 10, 3, 4, 5, 9, 1), math.MaxInt64, based(9, 26, 10, 8)},
		{x(1, 0, 3, 4), 5, based(4, 8, 0, 0)},
		{x(1, 0, 3, 4), 8, based(4, 8, 0, 0)},
		{x(1, 10, 0), 5, based(0, 0, 10, 8)},
		{x(0, 10, 0, 0), 0, based(0, 0, 10, 8)},
		{x(1, 10), 5, api.Box{}},
		{x(px, px), math.MaxInt64, api.Box{}},
		{x(px, px), math.MinInt64, api.Box{}},
		{x(px, px, px), 0, based(px, px, px, 805306368)},
		{x(px, px, px, px), 0, based(px, 3*px, 2*px, 805306368)},
	} {
		wantBox(t, c.n, c.width, c.want)
	}
	for high, base := range []int64{0, 1, 2, 3, 3, 4, 5, 6, 6, 7, 8, 9, 9} {
		wantBox(t, x(2, int64(high), 6, 5), 100, based(6, 13, int64(high), base))
		wantBox(t, x(2, int64(high), 6, 5), 12, based(6, 13, 2*int64(high), base))
	}
	wantBox(t, x(2, px-1, 6), 100, based(6, 6, px-1, 805306368))
	wantBox(t, x(2, px-2, 6), 100, based(6, 6, px-2, 805306367))
}

// wideByWords is the sum of the words, and of one blank between each two of them.
func wideByWords(n api.Node, from int, to int) int64 {
	var wide int64
	for at := from; at < to; at++ {
		if at > from {
			wide += n.Blank
		}
		wide += n.Words[at]
	}
	return wide
}

// linesByWords tries, for each line, all numbers of words from the greatest on, and takes one word if none is narrow enough.
func linesByWords(n api.Node, width int64) [][2]int {
	var l [][2]int
	for from := 0; from < len(n.Words); {
		end := len(n.Words)
		for end > from+1 && wideByWords(n, from, end) > width {
			end--
		}
		l = append(l, [2]int{from, end})
		from = end
	}
	return l
}

// wantProperties asks what the chapter says of all lines, without how they are found.
func wantProperties(t *testing.T, n api.Node, width int64, list [][2]int) {
	t.Helper()
	next := 0
	for i, line := range list {
		wide, err := lines.Wide(n, line[0], line[1])
		if line[0] != next || line[1] <= line[0] || err != api.OK {
			t.Fatalf("%v at %d: line %d of %v", n, width, i, few(list))
		}
		if wide > width && line[1] != line[0]+1 {
			t.Fatalf("%v at %d: line %d of %v is %d wide", n, width, i, few(list), wide)
		}
		next = line[1]
		if next < len(n.Words) {
			if more, _ := lines.Wide(n, line[0], next+1); more <= width {
				t.Fatalf("%v at %d: line %d of %v has room for a word", n, width, i, few(list))
			}
		}
	}
	if next != len(n.Words) {
		t.Fatalf("%v at %d: the lines %v end at %d", n, width, few(list), next)
	}
}

// wantAll holds all functions to the words of the chapter; the widths grow.
func wantAll(t *testing.T, n api.Node, widths ...int64) {
	t.Helper()
	if !lines.Right(n) {
		t.Fatalf("%v is not Right", n)
	}
	most := wideByWords(n, 0, len(n.Words))
	least := slices.Max(append([]int64{0}, n.Words...))
	wantBounds(t, n, least, most)
	last := math.MaxInt
	for _, width := range widths {
		list, err := lines.Break(n, width)
		if want := linesByWords(n, width); !slices.Equal(list, want) || err != api.OK {
			t.Fatalf("Break(%v, %d) = %v, %d, want %v", n, width, few(list), err, few(want))
		}
		wantProperties(t, n, width, list)
		if len(list) > last {
			t.Fatalf("%v has %d lines at %d, and fewer at a smaller width", n, len(list), width)
		}
		if width >= most && len(list) != min(1, len(n.Words)) {
			t.Fatalf("%v has %d lines at %d", n, len(list), width)
		}
		last = len(list)
		box := api.Box{Min: least, Max: most}
		for range list {
			box.High += n.High
		}
		if len(list) > 0 {
			box.HasBase, box.Base = true, n.High-n.High/4
		}
		wantBox(t, n, width, box)
	}
}

// P8.1 to P8.4: all texts of up to five words of four widths, with three blanks, at all widths.
func TestAllSmallTexts(t *testing.T) {
	for length := range 6 {
		for i := range int(math.Pow(4, float64(length))) {
			n := x(0, int64(i%11))
			for range length {
				n.Words = append(n.Words, []int64{0, 1, 2, 5}[i%4])
				i /= 4
			}
			for _, n.Blank = range []int64{0, 1, 3} {
				most := wideByWords(n, 0, length)
				widths := []int64{math.MinInt64}
				for width := int64(-1); width <= most+1; width++ {
					widths = append(widths, width)
				}
				wantAll(t, n, append(widths, math.MaxInt64)...)
				for from := range length + 1 {
					for to := from; to <= length; to++ {
						wantWide(t, n, from, to, wideByWords(n, from, to))
					}
				}
			}
		}
	}
}

// numbers are the same in every run, so that what fails once fails again.
type numbers uint64

func (r *numbers) below(n int) int {
	*r = *r*6364136223846793005 + 1442695040888963407
	return int(uint64(*r) >> 33 % uint64(n))
}

// text has up to so many words, which are up to so wide, and some of which are as wide as others, or have no width.
func (r *numbers) text(most int, wide int) api.Node {
	n := x(int64(r.below(wide+1)), int64(r.below(px+1)))
	if r.below(3) == 0 {
		n.Blank /= 50
	}
	for range r.below(most + 1) {
		word := int64(r.below(wide + 1))
		switch r.below(8) {
		case 0:
			word = 0
		case 1:
			word = int64(wide)
		}
		n.Words = append(n.Words, word)
	}
	return n
}

// P8.1 to P8.4: texts at random, at the widths of their own words, and beside those.
func TestRandomTexts(t *testing.T) {
	r := numbers(8)
	broken := 0
	for i := range 3000 {
		n := r.text(40, []int{3, 20, 1000, 1 << 20, px}[i%5])
		widths := []int64{math.MinInt64, -1, 0, math.MaxInt64}
		for range 12 {
			from := r.below(len(n.Words) + 1)
			to := from + r.below(min(len(n.Words)-from, 12)+1)
			wide := wideByWords(n, from, to)
			wantWide(t, n, from, to, wide)
			widths = append(widths, wide-1, wide, wide+1)
		}
		slices.Sort(widths)
		wantAll(t, n, widths...)
		broken += len(n.Words)
	}
	if broken < 50000 {
		t.Errorf("only %d words", broken)
	}
}

// P8.1 to P8.4: as many words as there may be, and as wide.
func TestMostWords(t *testing.T) {
	n := x(px, px, slices.Repeat([]int64{px}, 10000)...)
	most := int64(19999 * px)
	wantBounds(t, n, px, most)
	wantWide(t, n, 0, 9999, most-2*px)
	wantWide(t, n, 1, 10000, most-2*px)
	wantWide(t, n, 10000, 10000, 0)
	wantLines(t, n, most, to(10000))
	wantLines(t, n, most-1, to(9999, 10000))
	wantLines(t, n, math.MaxInt64, to(10000))
	wantLines(t, n, 3*px-1, ones(10000))
	wantLines(t, n, math.MinInt64, ones(10000))
	wantBox(t, n, most, based(px, most, px, 805306368))
	wantBox(t, n, most-1, based(px, most, 2*px, 805306368))
	wantBox(t, n, 0, based(px, most, 10000*px, 805306368))
	pairs, err := lines.Break(n, 3*px)
	if len(pairs) != 5000 || err != api.OK || pairs[0] != [2]int{0, 2} || pairs[4999] != [2]int{9998, 10000} {
		t.Errorf("%d pairs, error %d", len(pairs), err)
	}
	n = x(0, 4, make([]int64, 10000)...)
	wantBounds(t, n, 0, 0)
	wantLines(t, n, 0, to(10000))
	wantBox(t, n, -1, based(0, 0, 40000, 3))
	n.Words[9999] = 1
	wantLines(t, n, 0, to(9999, 10000))
	wantBounds(t, n, 1, 1)
}

// P8.2, P8.3: long lines are broken without adding up all their words for each of these.
func TestManyLongTexts(t *testing.T) {
	n := x(1, 10, slices.Repeat([]int64{3, 4, 5, 9, 1}, 2000)...)
	most := int64(2000*22 + 9999)
	for width := range int64(2000) {
		if box, err := lines.Box(n, most-width); box.High != 10*min(2, width+1) || err != api.OK {
			t.Fatalf("Box at %d = %v, %d", most-width, box, err)
		}
	}
}

// P8.1 to P8.3: a text is left as it is, and its spare capacity, too, with an error or without.
func TestTextsAreNotChanged(t *testing.T) {
	r := numbers(21)
	for i := range 300 {
		n := r.text(10, 9)
		n.Words = append(slices.Clone(n.Words), 77, 78, 79)[:len(n.Words)]
		n.Kids = append([]int{5, 6}, 80, 81)[:2]
		if i%3 == 1 {
			n.High = -1
		}
		words, kids := slices.Clone(n.Words[:cap(n.Words)]), slices.Clone(n.Kids[:cap(n.Kids)])
		before := n
		for _, width := range []int64{-1, 0, 5, 10, 1000} {
			lines.Right(n)
			lines.Wide(n, i%4, i%7)
			lines.Break(n, width)
			lines.Least(n)
			lines.Most(n)
			lines.Box(n, width)
		}
		if !reflect.DeepEqual(n, before) || !slices.Equal(n.Words[:cap(n.Words)], words) || !slices.Equal(n.Kids[:cap(n.Kids)], kids) {
			t.Fatalf("%v, %v became %v", words, kids, n)
		}
	}
}

// P8.2: lines are new memory each time, including their spare capacity.
func TestLinesAreNewMemory(t *testing.T) {
	n := x(1, 10, 3, 4, 5, 9, 1)
	for width := range int64(30) {
		want := linesByWords(n, width)
		first, _ := lines.Break(n, width)
		second, _ := lines.Break(n, width)
		first = first[:cap(first)]
		for i := range first {
			first[i] = [2]int{-7, -7}
		}
		if !slices.Equal(second, want) || !slices.Equal(n.Words, []int64{3, 4, 5, 9, 1}) {
			t.Errorf("at %d, the lines are %v, and the words %v", width, second, n.Words)
		}
		wantLines(t, n, width, want)
	}
}
