package stack_test

import (
	"math"
	"math/big"
	"reflect"
	"slices"
	"testing"

	"purfling/api"
	"purfling/stack"
)

const (
	px    = 1073741824
	most  = math.MaxInt64
	least = math.MinInt64
)

// box has no baseline.
func box(narrow int64, wide int64, high int64) api.Box {
	return api.Box{Min: narrow, Max: wide, High: high}
}

// based is a box with a baseline.
func based(narrow int64, wide int64, high int64, base int64) api.Box {
	return api.Box{Min: narrow, Max: wide, High: high, Base: base, HasBase: true}
}

func length(n int64) api.Size { return api.Size{Kind: api.SizeLen, N: n} }

func share(n int64) api.Size { return api.Size{Kind: api.SizeShare, N: n} }

func padded(top int64, right int64, bottom int64, left int64) api.Style {
	return api.Style{Pad: [4]int64{top, right, bottom, left}}
}

// bordered has solid borders of these widths.
func bordered(s api.Style, widths ...int64) api.Style {
	for i, width := range widths {
		s.Border[i] = api.Line{Style: api.BSolid, Width: width}
	}
	return s
}

func sized(s api.Style, width api.Size, height api.Size) api.Style {
	s.Width, s.Height = width, height
	return s
}

// node is of a kind, with Kids.
func node(kind int, kids ...int) api.Node { return api.Node{Kind: kind, Kids: kids} }

// block has a style, and Kids.
func block(s api.Style, kids ...int) api.Node { return api.Node{Style: s, Kids: kids} }

// text has blanks of 1, a height of lines, and words.
func text(high int64, words ...int64) api.Node {
	return api.Node{Kind: api.KText, High: high, Blank: 1, Words: words}
}

func ask(at int, width int64) api.Ask { return api.Ask{At: at, Width: width} }

func wantPile(t *testing.T, want api.Box, l ...api.Box) {
	t.Helper()
	if got := stack.Pile(l...); got != want {
		t.Errorf("Pile(%v) = %v, want %v", l, got, want)
	}
}

func wantOuter(t *testing.T, s api.Style, b api.Box, want api.Box) {
	t.Helper()
	if got := stack.Outer(s, b); got != want {
		t.Errorf("Outer(%v, %v) = %v, want %v", s, b, got, want)
	}
}

// few keeps messages short.
func few[T any](l []T) []T { return l[:min(len(l), 30)] }

func wantAsks(t *testing.T, l []api.Node, at int, width int64, want ...api.Ask) {
	t.Helper()
	if got, err := stack.Asks(l, at, width); !slices.Equal(got, want) || err != api.OK {
		t.Errorf("Asks(%v, %d, %d) = %v, %d, want %v", few(l), at, width, few(got), err, few(want))
	}
}

func wantContent(t *testing.T, l []api.Node, at int, width int64, want api.Box, answers ...api.Box) {
	t.Helper()
	if got, err := stack.Content(l, at, width, answers); got != want || err != api.OK {
		t.Errorf("Content(%v, %d, %d, %v) = %v, %d, want %v", few(l), at, width, few(answers), got, err, want)
	}
}

// wantFault holds both functions to an error that no answers change, and to nothing beside it.
func wantFault(t *testing.T, name string, l []api.Node, at int, want api.Errno) {
	t.Helper()
	for _, width := range []int64{least, -1, 0, 15, most} {
		if got, err := stack.Asks(l, at, width); len(got) > 0 || err != want {
			t.Errorf("%s: Asks at %d, %d = %v, %d, want error %d", name, at, width, got, err, want)
		}
		for n := range 4 {
			if got, err := stack.Content(l, at, width, slices.Repeat([]api.Box{based(1, 2, 3, 4)}, n)); got != (api.Box{}) || err != want {
				t.Errorf("%s: Content at %d, %d with %d answers = %v, %d, want error %d", name, at, width, n, got, err, want)
			}
		}
	}
}

// P9.1: the example of the chapter, and others written out.
func TestPile(t *testing.T) {
	wantPile(t, api.Box{})
	wantPile(t, api.Box{}, api.Box{})
	wantPile(t, based(0, 0, 8, 7), box(0, 0, 5), based(0, 0, 3, 2))
	wantPile(t, based(0, 0, 8, 2), based(0, 0, 3, 2), box(0, 0, 5))
	wantPile(t, based(0, 0, 8, 0), based(0, 0, 5, 0), based(0, 0, 3, 2))
	wantPile(t, based(0, 0, 10, 6), box(0, 0, 1), box(0, 0, 2), based(0, 0, 3, 3), based(0, 0, 4, 1))
	wantPile(t, based(0, 0, 4, 4), box(0, 0, 4), based(0, 0, 0, 0))
	wantPile(t, based(0, 0, 0, 0), based(0, 0, 0, 0))
	wantPile(t, box(3, 9, 0), box(3, 4, 0), box(2, 9, 0))
	wantPile(t, box(3, 9, 0), box(2, 9, 0), box(3, 4, 0))
	wantPile(t, based(7, 9, 11, 5), box(7, 7, 1), based(2, 9, 6, 4), box(5, 8, 4))
	wantPile(t, box(9, 2, 3), box(9, 1, 1), box(8, 2, 2))
}

// P9.1: a baseline that is not there counts for nothing, whatever its number, and one that is there counts wherever it lies.
func TestPileOfOddBaselines(t *testing.T) {
	wantPile(t, box(0, 0, 5), api.Box{High: 5, Base: 4})
	wantPile(t, based(0, 0, 8, 7), api.Box{High: 5, Base: 4}, based(0, 0, 3, 2))
	wantPile(t, based(0, 0, 8, 104), box(0, 0, 5), based(0, 0, 3, 99))
	wantPile(t, based(0, 0, 8, -4), box(0, 0, 5), based(0, 0, 3, -9), based(0, 0, 0, 1))
}

// P9.1: widths are at least 0, heights are not.
func TestPileOfNegativeBoxes(t *testing.T) {
	wantPile(t, box(0, 0, -9), box(-1, -2, -9))
	wantPile(t, box(0, 0, least), box(least, least, least))
	wantPile(t, box(4, 0, -4), box(-1, -2, -9), box(4, -7, 5))
	wantPile(t, based(0, 6, -4, -8), box(-1, -2, -9), based(-4, 6, 5, 1))
}

// P9.1: each sum on the way is saturated, so that heights below 0 lead back from a bound, not from beyond it.
func TestPileSaturates(t *testing.T) {
	wantPile(t, box(most, most, most), box(most, 1, most), box(1, most, most))
	wantPile(t, box(0, 0, most-5), box(0, 0, most), box(0, 0, 3), box(0, 0, -5))
	wantPile(t, box(0, 0, most-2), box(0, 0, most), box(0, 0, -5), box(0, 0, 3))
	wantPile(t, box(0, 0, least+5), box(0, 0, least), box(0, 0, -3), box(0, 0, 5))
	wantPile(t, box(0, 0, -1), box(0, 0, most), box(0, 0, least))
	wantPile(t, based(0, 0, most, most), box(0, 0, most), based(0, 0, 1, 1))
	wantPile(t, based(0, 0, most-4, most-7), box(0, 0, most), box(0, 0, 9), based(0, 0, -4, -7))
	wantPile(t, based(0, 0, least+4, least+7), box(0, 0, least), box(0, 0, -9), based(0, 0, 4, 7))
	wantPile(t, based(0, 0, most, most), based(0, 0, 0, most), box(0, 0, most))
}

// P9.1: the frame is around the content, with paddings and borders.
func TestOuterAddsTheFrame(t *testing.T) {
	wantOuter(t, api.Style{}, api.Box{}, api.Box{})
	wantOuter(t, api.Style{}, based(3, 5, 7, 6), based(3, 5, 7, 6))
	wantOuter(t, padded(1, 20, 300, 4000), api.Box{}, box(4020, 4020, 301))
	wantOuter(t, padded(1, 20, 300, 4000), box(3, 5, 7), box(4023, 4025, 308))
	wantOuter(t, padded(1, 20, 300, 4000), based(3, 5, 7, 6), based(4023, 4025, 308, 7))
	wantOuter(t, padded(1, 20, 300, 4000), based(0, 0, 0, 0), based(4020, 4020, 301, 1))
	wantOuter(t, bordered(api.Style{}, 1, 20, 300, 4000), based(3, 5, 7, 6), based(4023, 4025, 308, 7))
	wantOuter(t, bordered(padded(1, 20, 300, 4000), 5, 60, 700, 8000), based(3, 5, 7, 6), based(12083, 12085, 1013, 12))
	wantOuter(t, bordered(padded(px, px, px, px), px, px, px, px), based(px, px, px, px), based(5*px, 5*px, 5*px, 3*px))
}

// P9.1: a width that is a length replaces both widths, a height that is one only what is lower.
func TestOuterTakesSizes(t *testing.T) {
	s := padded(1, 20, 300, 4000)
	wantOuter(t, sized(s, length(9), api.Size{}), based(3, 5, 7, 6), based(4029, 4029, 308, 7))
	wantOuter(t, sized(s, length(4), api.Size{}), based(3, 5, 7, 6), based(4024, 4024, 308, 7))
	wantOuter(t, sized(s, length(0), api.Size{}), based(3, 5, 7, 6), based(4020, 4020, 308, 7))
	wantOuter(t, sized(s, api.Size{}, length(9)), based(3, 5, 7, 6), based(4023, 4025, 310, 7))
	wantOuter(t, sized(s, api.Size{}, length(7)), based(3, 5, 7, 6), based(4023, 4025, 308, 7))
	wantOuter(t, sized(s, api.Size{}, length(6)), based(3, 5, 7, 6), based(4023, 4025, 308, 7))
	wantOuter(t, sized(s, api.Size{}, length(0)), based(3, 5, 7, 6), based(4023, 4025, 308, 7))
	wantOuter(t, sized(s, length(40), length(20)), box(3, 5, 7), box(4060, 4060, 321))
	wantOuter(t, sized(api.Style{}, length(px), length(px)), api.Box{}, box(px, px, px))
}

// P9.1: sizes that are not lengths change nothing, whatever their numbers.
func TestOuterLeavesOtherSizes(t *testing.T) {
	for _, kind := range []int{math.MinInt, -1, api.SizeAuto, api.SizeShare, 3, math.MaxInt} {
		for _, n := range []int64{least, -1, 0, 1, 10000, 10000000, most} {
			w := api.Size{Kind: kind, N: n}
			wantOuter(t, sized(padded(1, 20, 300, 4000), w, w), based(3, 5, 7, 6), based(4023, 4025, 308, 7))
		}
	}
}

// P9.1: nothing else of a style counts, and what is said of a baseline that is not there is gone.
func TestOuterLeavesTheRest(t *testing.T) {
	s := api.Style{ColSpan: 3, RowSpan: 4, Align: api.AlignBottom, Fixed: true, Collapse: true, Spacing: [2]int64{50, 60}, Hide: true, Below: true}
	wantOuter(t, s, based(3, 5, 7, 6), based(3, 5, 7, 6))
	wantOuter(t, s, api.Box{Min: 3, Max: 5, High: 7, Base: 6}, box(3, 5, 7))
	wantOuter(t, padded(1, 0, 0, 0), api.Box{Base: most}, box(0, 0, 1))
	wantOuter(t, padded(1, 0, 0, 0), api.Box{Base: least}, box(0, 0, 1))
}

// P9.1: sums are made in the order right, left, and top, bottom; each one on the way is saturated.
func TestOuterSaturates(t *testing.T) {
	wantOuter(t, padded(1, 1, 1, 1), based(most, most, most, most), based(most, most, most, most))
	wantOuter(t, padded(1, 2, 3, 4), based(most-5, most-6, most-4, most-1), based(most, most, most, most))
	wantOuter(t, padded(0, 3, 0, -5), box(most, most, 0), box(most-5, most-5, 0))
	wantOuter(t, padded(0, -5, 0, 3), box(most, most, 0), box(most-2, most-2, 0))
	wantOuter(t, padded(0, -3, 0, 5), box(least, least, 0), box(least+5, least+5, 0))
	wantOuter(t, padded(3, 0, -5, 0), based(0, 0, most, most), based(0, 0, most-5, most))
	wantOuter(t, padded(-5, 0, 3, 0), based(0, 0, most, most), based(0, 0, most-2, most-5))
	wantOuter(t, bordered(padded(most, 0, 0, 0), 9), based(0, 0, -7, -8), based(0, 0, most-7, most-8))
	wantOuter(t, sized(padded(0, 3, 3, -5), length(most), length(most)), box(1, 2, 3), box(most-5, most-5, most))
}

// P9.1: a box or a style may be what no page has.
func TestOuterOfOddThings(t *testing.T) {
	wantOuter(t, padded(1, 20, 300, 4000), based(-3, -5, -7, -6), based(4017, 4015, 294, -5))
	wantOuter(t, padded(-1, -20, -300, -4000), based(3, 5, 7, 6), based(-4017, -4015, -294, 5))
	wantOuter(t, sized(api.Style{}, length(-9), length(-9)), box(3, 5, 7), box(-9, -9, 7))
	wantOuter(t, sized(api.Style{}, length(-9), length(-9)), box(3, 5, -10), box(-9, -9, -9))
	wantOuter(t, padded(least, least, least, least), based(least, least, least, least), based(least, least, least, least))
}

// P9.2: the example of the chapter, and the same with sizes.
func TestExample(t *testing.T) {
	l := []api.Node{node(api.KCell, 1, 2, 3), block(padded(1, 2, 3, 4), 4), node(api.KTable), text(8, 10, 10), text(4, 5, 5)}
	l[3].Blank, l[4].Blank = 0, 0
	wantAsks(t, l, 0, 15, ask(2, 15))
	wantContent(t, l, 0, 15, based(11, 30, 35, 4), box(6, 30, 7))
	wantContent(t, l, 0, 25, based(11, 20, 16, 4), api.Box{})
	l[1].Style = sized(l[1].Style, length(40), length(20))
	wantAsks(t, l, 0, 15, ask(2, 15))
	wantContent(t, l, 0, 15, based(46, 46, 40, 4), api.Box{})
}

// P9.2: a content may be empty, and so may be what is in it.
func TestEmptyContents(t *testing.T) {
	for _, kind := range []int{api.KBlock, api.KCell, api.KCaption} {
		for _, width := range []int64{least, -1, 0, 1, most} {
			wantAsks(t, []api.Node{node(kind)}, 0, width)
			wantContent(t, []api.Node{node(kind)}, 0, width, api.Box{})
			wantContent(t, []api.Node{node(kind, 2, 1), {}, text(8)}, 0, width, api.Box{})
			wantContent(t, []api.Node{node(kind, 1), block(padded(1, 2, 3, 4))}, 0, width, box(6, 6, 4))
		}
	}
}

// P9.2: a text is broken at the width of the content, which may be below 0, though that of a block's is not.
func TestTextsAreBroken(t *testing.T) {
	l := []api.Node{node(api.KCell, 1), text(8, 3, 4, 5, 9, 1)}
	wantContent(t, l, 0, 26, based(9, 26, 8, 6))
	wantContent(t, l, 0, 25, based(9, 26, 16, 6))
	wantContent(t, l, 0, 8, based(9, 26, 32, 6))
	wantContent(t, l, 0, least, based(9, 26, 40, 6))
	l = []api.Node{node(api.KCell, 1, 2), {Kind: api.KText, High: 8, Words: []int64{0, 0}}, block(api.Style{}, 3), {Kind: api.KText, High: 100, Words: []int64{0, 0}}}
	wantContent(t, l, 0, 0, based(0, 0, 108, 6))
	wantContent(t, l, 0, -1, based(0, 0, 116, 6))
	wantContent(t, l, 2, -1, based(0, 0, 200, 75))
}

// P9.2: the box is that of the content: the node's own frame and sizes are around it.
func TestOwnStyleIsOutside(t *testing.T) {
	for _, kind := range []int{api.KBlock, api.KCell, api.KCaption} {
		own := api.Node{Kind: kind, Kids: []int{1, 2}, Style: sized(bordered(padded(1, 2, 3, 4), 5, 6, 7, 8), length(3), length(90))}
		l := []api.Node{own, text(8, 5, 5), node(api.KTable)}
		wantAsks(t, l, 0, 11, ask(2, 11))
		wantContent(t, l, 0, 11, based(5, 11, 8, 6), api.Box{})
		wantContent(t, l, 0, 10, based(5, 11, 16, 6), api.Box{})
	}
}

// P9.2: of all kinds of Kids, only texts, blocks and tables need something.
func TestOtherKidsNeedNothing(t *testing.T) {
	for kind := api.KBlock; kind <= api.KCell; kind++ {
		if kind == api.KText || kind == api.KCol {
			continue
		}
		l := []api.Node{node(api.KCell, 1, 2), node(kind, 4, 3), text(4, 9), node(api.KTable), text(8, 20)}
		l[1].Style = sized(padded(1, 2, 3, 4), length(70), length(60))
		switch kind {
		case api.KBlock:
			wantAsks(t, l, 0, 15, ask(3, 70))
			wantContent(t, l, 0, 15, based(76, 76, 68, 7), api.Box{})
		case api.KTable:
			wantAsks(t, l, 0, 15, ask(1, 15))
			wantContent(t, l, 0, 15, based(10, 11, 16, 15), box(10, 11, 12))
		default:
			wantAsks(t, l, 0, 15)
			wantContent(t, l, 0, 15, based(9, 9, 4, 3))
		}
	}
	col := node(api.KCol)
	col.Style = sized(padded(1, 2, 3, 4), length(70), length(60))
	wantContent(t, []api.Node{node(api.KCell, 1, 2), col, text(4, 9)}, 0, 15, based(9, 9, 4, 3))
}

// P9.2: tables are asked for in the order of the content, not in that of the nodes, each with its own width.
func TestOrderOfAsks(t *testing.T) {
	l := []api.Node{
		node(api.KCaption, 9, 2, 5, 1), // root
		node(api.KTable),               // last
		block(padded(1, 2, 3, 4), 8, 3, 7),
		block(sized(padded(0, 10, 0, 10), length(50), api.Size{}), 4), // in 2
		node(api.KTable),                                              // in 3
		block(bordered(api.Style{}, 9, 9, 9, 9), 6),
		node(api.KTable, 10), // in 5
		node(api.KTable),     // in 2, behind 3
		node(api.KTable),     // in 2, before 3
		node(api.KTable),     // first
		node(api.KBlock, 11), // in a table
		node(api.KTable),     // in a table
	}
	wantAsks(t, l, 0, 100, ask(9, 100), ask(8, 94), ask(4, 50), ask(7, 94), ask(6, 82), ask(1, 100))
	wantAsks(t, l, 2, 100, ask(8, 100), ask(4, 50), ask(7, 100))
	wantAsks(t, l, 3, 100, ask(4, 100))
	wantAsks(t, l, 10, 100, ask(11, 100))
	answers := []api.Box{box(1, 0, 1), box(2, 0, 10), box(3, 0, 100), box(4, 7, 1000), based(5, 8, 10000, 50), based(6, 9, 100000, 7)}
	wantContent(t, l, 0, 100, based(76, 76, 111133, 1174), answers...)
	answers[2] = box(0, 0, 0)
	wantContent(t, l, 0, 100, based(76, 76, 111033, 1074), answers...)
	wantContent(t, l, 2, 100, based(70, 70, 7, 3), box(5, 5, 1), based(6, 6, 2, 2), box(7, 7, 4))
}

// P9.2: the width of a block's content is its own if that is a length, and else what the frame leaves, but no less than 0; that of the content itself may be any.
func TestWidthsOfContents(t *testing.T) {
	frame := bordered(padded(900, 1, 900, 20), 900, 300, 900, 4000)
	for _, c := range []struct {
		s     api.Style
		width int64
		want  int64
	}{
		{frame, 5000, 679}, {frame, 4322, 1}, {frame, 4321, 0}, {frame, 4320, 0}, {frame, 0, 0}, {frame, -1, 0}, {frame, least, 0}, {frame, most, most - 4321},
		{api.Style{}, 7, 7}, {api.Style{}, 0, 0}, {api.Style{}, -7, 0}, {api.Style{}, least, 0}, {api.Style{}, most, most},
		{sized(frame, length(50), api.Size{}), 5000, 50}, {sized(frame, length(50), api.Size{}), -1, 50},
		{sized(frame, length(0), api.Size{}), 5000, 0}, {sized(frame, length(-50), api.Size{}), 5000, 0}, {sized(frame, length(px), api.Size{}), 0, px},
		{sized(frame, share(5000), api.Size{}), 5000, 679}, {sized(frame, share(0), api.Size{}), 4000, 0}, {sized(frame, api.Size{N: 50}, api.Size{}), 5000, 679},
		{sized(frame, api.Size{}, length(50)), 5000, 679},
		{bordered(padded(px, px, px, px), px, px, px, px), 4*px + 1, 1},
		{padded(-5, -5, -5, -5), 100, 100}, {bordered(padded(0, 3, 0, -5), 0, -5, 0, 4), 100, 93},
		{api.Style{Pad: [4]int64{0, 0, 0, 1}, Border: [4]api.Line{1: {Width: 50}, 3: {Style: api.BHidden, Width: 60}}}, 100, 99},
	} {
		l := []api.Node{node(api.KBlock, 2, 1), block(c.s, 3), node(api.KTable), node(api.KTable)}
		wantAsks(t, l, 0, c.width, ask(2, c.width), ask(3, c.want))
		wantAsks(t, l, 1, c.width, ask(3, c.width))
		l[0].Kids, l[2] = []int{1}, block(c.s)
		l[1].Kids, l[1].Style = []int{2, 3}, api.Style{}
		wantAsks(t, l, 0, c.width, ask(3, max(c.width, 0)))
	}
}

// P9.2: the nodes are the computed ones, with which lengths below 0 are 0, and borders that are not drawn are none.
func TestStylesAreComputed(t *testing.T) {
	s := sized(padded(-1, 2, -3, 4), length(-9), length(-9))
	s.Border = [4]api.Line{{Width: 50}, {Style: api.BHidden, Width: 60}, {Style: api.BDotted, Width: -70}, {Style: api.BInset, Width: 80}}
	l := []api.Node{node(api.KCell, 1), block(s, 2, 3), text(8, 5, 5), node(api.KTable)}
	wantAsks(t, l, 0, 100, ask(3, 0))
	wantContent(t, l, 0, 100, based(86, 86, 16, 6), api.Box{})
	l[1].Style.Width = api.Size{N: 4}
	wantAsks(t, l, 0, 100, ask(3, 14))
	wantContent(t, l, 0, 100, based(91, 97, 8, 6), api.Box{})
}

// P9.2: an answer is the box of its table as it is, also where no table is like that.
func TestAnswersAreTaken(t *testing.T) {
	l := []api.Node{node(api.KCell, 1, 2), node(api.KTable), block(padded(1, 2, 3, 4), 3), node(api.KTable)}
	l[1].Style = sized(padded(9, 9, 9, 9), length(80), length(80))
	wantContent(t, l, 0, 15, box(6, 6, 4), api.Box{}, api.Box{})
	wantContent(t, l, 0, 15, based(9, 11, 25, 12), api.Box{Min: 2, Max: 11, High: 10, Base: 7}, based(3, 4, 11, 1))
	wantContent(t, l, 0, 15, based(6, 6, -15, -19), box(-8, -9, -20), based(-3, -4, 1, 0))
	wantContent(t, l, 0, 15, based(most, most, most, most), box(1, 1, most), based(most, most, most, most))
	wantContent(t, l, 0, 15, based(6, 6, 5, least), based(least, least, 0, least), based(0, 0, 1, 1))
	wantContent(t, l, 0, 15, based(6, 6, least, least), box(0, 0, least), based(least, least, least, least))
	wantContent(t, l, 0, 15, based(6, 6, least+4, least+1), api.Box{}, based(least, least, least, least))
}

// P9.2: there are as many answers as asks.
func TestNumberOfAnswers(t *testing.T) {
	l := []api.Node{node(api.KCell, 1, 2, 5, 4), node(api.KTable, 3), block(api.Style{}, 6), node(api.KCaption, 7), text(8, 3), node(api.KRow, 8), node(api.KTable), node(api.KTable), node(api.KTable)}
	for at, asks := range []int{2, -1, 1, 1, -1, -1, -1, -1, -1} {
		for n := range 6 {
			answers := slices.Repeat([]api.Box{based(1, 2, 3, 4)}, n)
			got, err := stack.Content(l, at, 15, answers)
			if n == asks && err != api.OK || n != asks && (err != api.ErrArg || got != (api.Box{})) {
				t.Errorf("Content at %d with %d answers to %d asks = %v, %d", at, n, asks, got, err)
			}
		}
	}
	roomy := append([]api.Box(nil), api.Box{}, api.Box{})[:1]
	if got, err := stack.Content(l, 0, 15, roomy); got != (api.Box{}) || err != api.ErrArg {
		t.Errorf("Content with an answer of the spare capacity = %v, %d", got, err)
	}
}

// P9.2: only blocks, cells and captions have a content.
func TestWrongNodes(t *testing.T) {
	for kind := api.KBlock; kind <= api.KCell; kind++ {
		l := []api.Node{node(api.KBlock, 2, 1), node(kind), node(api.KTable, 3), node(api.KCell, 4), node(api.KRow)}
		switch kind {
		case api.KBlock, api.KCell, api.KCaption:
			wantAsks(t, l, 1, 15)
			wantContent(t, l, 1, 15, api.Box{})
		default:
			wantFault(t, "no content", l, 1, api.ErrArg)
		}
		wantFault(t, "a table", l, 2, api.ErrArg)
		wantFault(t, "a row", l, 4, api.ErrArg)
		for _, at := range []int{math.MinInt, -1 << 32, -5, -1, 5, 6, 65536, 1 << 32, 1<<32 + 1, math.MaxInt} {
			wantFault(t, "no node", l, at, api.ErrArg)
			wantFault(t, "no node", l[4:], at, api.ErrArg)
		}
		wantFault(t, "no node, but one of the spare capacity", []api.Node{{}, {}}[:1], 1, api.ErrArg)
	}
}

// chain is a path of n blocks, from the first to the last.
func chain(n int) []api.Node {
	l := make([]api.Node, n)
	for i := range n - 1 {
		l[i].Kids = []int{i + 1}
	}
	return l
}

// P9.2: the error of a page comes before all others, whatever node is asked for, and wherever it is.
func TestWrongPages(t *testing.T) {
	wordy := text(8, make([]int64, 10001)...)
	many := make([]api.Node, 65537)
	for i := range many[1:] {
		many[0].Kids = append(many[0].Kids, i+1)
	}
	for _, c := range []struct {
		name string
		l    []api.Node
		err  api.Errno
	}{
		{"nil", nil, api.ErrMany},
		{"no nodes", []api.Node{}, api.ErrMany},
		{"a kind below all", []api.Node{{Kind: -1}}, api.ErrKind},
		{"a kind above all", []api.Node{node(api.KCell, 1), {Kind: 11}}, api.ErrKind},
		{"a style that is not valid", []api.Node{node(api.KCell, 1), block(padded(0, 0, px+1, 0))}, api.ErrKind},
		{"a block with words", []api.Node{{Words: []int64{1}}}, api.ErrKind},
		{"a text with Kids", []api.Node{node(api.KBlock, 1), {Kind: api.KText, Kids: []int{2}}, {}}, api.ErrKind},
		{"too many words", []api.Node{node(api.KBlock, 1), wordy}, api.ErrKind},
		{"a word below 0", []api.Node{node(api.KBlock, 1), text(8, 3, -1)}, api.ErrKind},
		{"a wrong kind, and a wrong link", []api.Node{node(api.KBlock, 9), {Kind: 11}}, api.ErrKind},
		{"a Kid beyond the end", []api.Node{node(api.KBlock, 1), node(api.KTable, 2)}, api.ErrLink},
		{"a Kid below 0", []api.Node{node(api.KCaption, -1)}, api.ErrLink},
		{"the root as a Kid", []api.Node{node(api.KCell, 1), node(api.KBlock, 0)}, api.ErrLink},
		{"a Kid twice", []api.Node{node(api.KCell, 1, 1), {}}, api.ErrCycle},
		{"a circle", []api.Node{node(api.KCell), block(api.Style{}, 2), block(api.Style{}, 1)}, api.ErrCycle},
		{"a block in itself", []api.Node{node(api.KCell, 1), block(api.Style{}, 1)}, api.ErrCycle},
		{"a node that is no Kid", []api.Node{node(api.KCell), node(api.KTable)}, api.ErrCycle},
		{"65 levels", chain(65), api.ErrDeep},
		{"65537 nodes", many, api.ErrMany},
	} {
		for _, at := range []int{math.MinInt, -1, 0, 1, 2, math.MaxInt} {
			if len(c.l) > 1000 && at != 1 {
				continue
			}
			wantFault(t, c.name, c.l, at, c.err)
		}
	}
}

// P9.2: contents as deep, and as long, as pages may be.
func TestLargeContents(t *testing.T) {
	deep := chain(64)
	for i := range deep {
		deep[i].Style = padded(1, 2, 3, 4)
	}
	deep[63] = node(api.KTable)
	wantAsks(t, deep, 0, 1000, ask(63, 1000-62*6))
	wantAsks(t, deep, 0, 100, ask(63, 0))
	wantAsks(t, deep, 60, 100, ask(63, 100-2*6))
	wantContent(t, deep, 0, 1000, based(5+62*6, 9+62*6, 7+62*4, 6+62), based(5, 9, 7, 6))

	long := make([]api.Node, 65536)
	var asks []api.Ask
	var answers []api.Box
	for i := range long[1:] {
		long[0].Kids = append(long[0].Kids, 65535-i)
		long[65535-i] = node(api.KTable)
		asks = append(asks, ask(65535-i, 7))
		answers = append(answers, box(int64(i), int64(65535-i), px))
	}
	answers[65534].HasBase = true
	wantAsks(t, long, 0, 7, asks...)
	wantContent(t, long, 0, 7, based(65534, 65535, 65535*px, 65534*px), answers...)
}

// numbers are the same in every run, so that what fails once fails again.
type numbers uint64

func (r *numbers) below(n int) int {
	*r = *r*6364136223846793005 + 1442695040888963407
	return int(uint64(*r) >> 33 % uint64(n))
}

// length is mostly small, and may be below 0 or far beyond.
func (r *numbers) length() int64 {
	switch r.below(12) {
	case 0:
		return -int64(r.below(20))
	case 1:
		return []int64{most, most - 3, least, least + 3, px, -px}[r.below(6)]
	}
	return int64(r.below(40))
}

func (r *numbers) box() api.Box {
	return api.Box{Min: r.length(), Max: r.length(), High: r.length(), Base: r.length(), HasBase: r.below(2) == 0}
}

func (r *numbers) size() api.Size {
	return api.Size{Kind: r.below(3), N: int64(r.below(60))}
}

// style is valid, and mostly not computed.
func (r *numbers) style() api.Style {
	s := sized(api.Style{}, r.size(), r.size())
	for i := range 4 {
		s.Pad[i] = int64(r.below(12) - 2)
		s.Border[i] = api.Line{Style: r.below(4), Width: int64(r.below(8) - 1)}
	}
	return s
}

// page is a tree of nodes of all kinds, most of them such that have contents.
func (r *numbers) page(n int) []api.Node {
	kinds := []int{api.KBlock, api.KBlock, api.KBlock, api.KBlock, api.KTable, api.KTable, api.KText, api.KText, api.KCell, api.KCaption, api.KRow, api.KCol}
	l := make([]api.Node, n)
	var parents []int
	for i := range l {
		l[i] = node(kinds[r.below(len(kinds))])
		if i == 0 {
			l[i].Kind = []int{api.KBlock, api.KCell, api.KCaption}[r.below(3)]
		} else {
			parent := &l[parents[len(parents)-1-r.below(min(len(parents), 6))]]
			parent.Kids = slices.Insert(parent.Kids, r.below(len(parent.Kids)+1), i)
		}
		switch l[i].Kind {
		case api.KText:
			l[i] = text(int64(r.below(20)), make([]int64, r.below(6))...)
			for j := range l[i].Words {
				l[i].Words[j] = int64(r.below(30))
			}
		case api.KCol:
		default:
			parents = append(parents, i)
		}
		l[i].Style = r.style()
	}
	return l
}

// sum is worked out without a bound, and then held to it, at each step.
func sum(l ...int64) int64 {
	all := big.NewInt(0)
	for _, n := range l {
		all.Add(all, big.NewInt(n))
		if !all.IsInt64() && all.Sign() > 0 {
			all.SetInt64(most)
		}
		if !all.IsInt64() {
			all.SetInt64(least)
		}
	}
	return all.Int64()
}

// pileByWords goes through the chapter's words on the box of a content.
func pileByWords(l []api.Box) api.Box {
	var high, before []int64
	pile := api.Box{}
	for _, b := range l {
		high = append(high, b.High)
		pile.Min, pile.Max = max(pile.Min, b.Min), max(pile.Max, b.Max)
	}
	pile.High = sum(high...)
	if first := slices.IndexFunc(l, func(b api.Box) bool { return b.HasBase }); first >= 0 {
		before = append(before, high[:first]...)
		pile.Base, pile.HasBase = sum(append(before, l[first].Base)...), true
	}
	return pile
}

// frameByWords is of a style that may still have to be computed, or of one that is taken as it is.
func frameByWords(s api.Style, compute bool) (frame [4]int64) {
	for i, line := range s.Border {
		pad, width := s.Pad[i], line.Width
		if compute {
			pad, width = max(pad, 0), max(width, 0)
			if line.Style == api.BNone || line.Style == api.BHidden {
				width = 0
			}
		}
		frame[i] = sum(pad, width)
	}
	return frame
}

func outerByWords(s api.Style, b api.Box, compute bool) api.Box {
	frame := frameByWords(s, compute)
	if s.Width.Kind == api.SizeLen {
		b.Min, b.Max = s.Width.N, s.Width.N
	}
	if s.Height.Kind == api.SizeLen && b.High < s.Height.N {
		b.High = s.Height.N
	}
	outer := api.Box{Min: sum(b.Min, frame[1], frame[3]), Max: sum(b.Max, frame[1], frame[3]), High: sum(b.High, frame[0], frame[2]), HasBase: b.HasBase}
	if b.HasBase {
		outer.Base = sum(b.Base, frame[0])
	}
	return outer
}

// textByWords fills line after line.
func textByWords(n api.Node, width int64) api.Box {
	b := api.Box{HasBase: len(n.Words) > 0}
	line := int64(-1)
	for i, word := range n.Words {
		b.Min, b.Max = max(b.Min, word), b.Max+word
		if i > 0 {
			b.Max += n.Blank
		}
		if line < 0 || line+n.Blank+word > width {
			b.High, line = b.High+n.High, word
		} else {
			line += n.Blank + word
		}
	}
	if b.HasBase {
		b.Base = n.High - n.High/4
	}
	return b
}

// contentByWords lists the asks on its way, and takes the answers by the indexes of the tables.
func contentByWords(l []api.Node, at int, width int64, asks *[]api.Ask, answers map[int]api.Box) api.Box {
	var boxes []api.Box
	for _, kid := range l[at].Kids {
		n := l[kid]
		if n.Kind == api.KText {
			boxes = append(boxes, textByWords(n, width))
		}
		if n.Kind == api.KTable {
			*asks = append(*asks, ask(kid, width))
			boxes = append(boxes, answers[kid])
		}
		if n.Kind == api.KBlock {
			frame := frameByWords(n.Style, true)
			inside := max(sum(width, -frame[3], -frame[1]), 0)
			if n.Style.Width.Kind == api.SizeLen {
				inside = n.Style.Width.N
			}
			boxes = append(boxes, outerByWords(n.Style, contentByWords(l, kid, inside, asks, answers), true))
		}
	}
	return pileByWords(boxes)
}

// P9.1: random boxes and styles, by the chapter's words.
func TestRandomBoxes(t *testing.T) {
	r := numbers(1)
	for range 20000 {
		l := make([]api.Box, r.below(6))
		for i := range l {
			l[i] = r.box()
		}
		wantPile(t, pileByWords(l), l...)
		s, b := r.style(), r.box()
		for i := range 4 {
			s.Pad[i], s.Border[i].Width = r.length(), r.length()
		}
		s.Width.N, s.Height.N = r.length(), r.length()
		wantOuter(t, s, b, outerByWords(s, b, false))
	}
}

// P9.2: random pages, by the chapter's words.
func TestRandomPages(t *testing.T) {
	r := numbers(2)
	asked := 0
	for range 3000 {
		l := r.page(1 + r.below(30))
		boxes := make(map[int]api.Box, len(l))
		for i := range l {
			boxes[i] = r.box()
		}
		for at, n := range l {
			if n.Kind != api.KBlock && n.Kind != api.KCell && n.Kind != api.KCaption {
				continue
			}
			width := int64(r.below(150))
			if r.below(8) == 0 {
				width = r.length()
			}
			var asks []api.Ask
			want := contentByWords(l, at, width, &asks, boxes)
			answers := make([]api.Box, len(asks))
			for i, a := range asks {
				answers[i] = boxes[a.At]
			}
			wantAsks(t, l, at, width, asks...)
			wantContent(t, l, at, width, want, answers...)
			asked += min(len(asks), 2) / 2
		}
		if t.Failed() {
			return
		}
	}
	if asked < 1000 {
		t.Errorf("%d contents only have several asks", asked)
	}
}

// P9.3: a pile is as high as all parts, as wide as the widest one, and never lower or narrower with more of them.
func TestProperties(t *testing.T) {
	r := numbers(3)
	for range 5000 {
		l := make([]api.Box, 1+r.below(8))
		for i := range l {
			l[i] = api.Box{Min: int64(r.below(50)), Max: int64(r.below(90)), High: int64(r.below(50)), Base: int64(r.below(50)), HasBase: r.below(3) == 0}
		}
		var high int64
		for n := range len(l) {
			less, more := stack.Pile(l[:n]...), stack.Pile(l[:n+1]...)
			high += l[n].High
			if more.High != high || more.Min != max(less.Min, l[n].Min) || more.Max != max(less.Max, l[n].Max) {
				t.Fatalf("%v becomes %v with %v", less, more, l[n])
			}
			if less.HasBase && (!more.HasBase || more.Base != less.Base) || !less.HasBase && more.HasBase != l[n].HasBase {
				t.Fatalf("the baseline of %v becomes that of %v with %v", less, more, l[n])
			}
			one := slices.Delete(slices.Clone(l), n, n+1)
			if some, all := stack.Pile(one...), stack.Pile(l...); some.Min > all.Min || some.Max > all.Max || some.High+l[n].High != all.High {
				t.Fatalf("%v needs %v, without %d %v", l, all, n, some)
			}
		}
	}
}

// P9.3: nor does a content need less with one more Kid.
func TestMoreKidsNeedNoLess(t *testing.T) {
	r := numbers(4)
	for range 2000 {
		l := r.page(2 + r.below(20))
		width := int64(r.below(150))
		asks, _ := stack.Asks(l, 0, width)
		answers := make([]api.Box, len(asks)+1)
		for i := range answers {
			answers[i] = box(int64(r.below(50)), int64(r.below(90)), int64(r.below(50)))
		}
		less, err := stack.Content(l, 0, width, answers[:len(asks)])
		l[0].Kids = append(l[0].Kids, len(l))
		all, errAll := stack.Content(append(l, node(api.KTable)), 0, width, answers)
		last := answers[len(asks)]
		want := api.Box{Min: max(less.Min, last.Min), Max: max(less.Max, last.Max), High: less.High + last.High, Base: less.Base, HasBase: less.HasBase}
		if err != api.OK || errAll != api.OK || all != want {
			t.Fatalf("%v, %d becomes %v, %d with %v", less, err, all, errAll, last)
		}
	}
}

// roomy is the page with spare capacity in every list, and something in it.
func roomy(l []api.Node) []api.Node {
	room := append(make([]api.Node, 0, len(l)+2), l...)
	for i := range room {
		room[i].Kids = append(append([]int{}, l[i].Kids...), 77, 78)[:len(l[i].Kids)]
		room[i].Words = append(append([]int64{}, l[i].Words...), 79, 80)[:len(l[i].Words)]
	}
	copy(room[len(l):cap(room)], []api.Node{{High: 81}, {High: 82}})
	return room
}

// allOf is the page with its lists and what is in their spare capacity.
func allOf(l []api.Node) []api.Node {
	all := slices.Clone(l[:cap(l)])
	for i, n := range all {
		all[i].Kids = slices.Clone(n.Kids[:cap(n.Kids)])
		all[i].Words = slices.Clone(n.Words[:cap(n.Words)])
	}
	return all
}

// P9.1, P9.2: pages, answers and boxes are left as they are, and so is their spare capacity.
func TestArgumentsAreNotChanged(t *testing.T) {
	r := numbers(5)
	for range 300 {
		l := roomy(r.page(1 + r.below(20)))
		before := allOf(l)
		asks, _ := stack.Asks(l, 0, 50)
		boxes := make([]api.Box, len(asks), len(asks)+3)
		for i := range boxes[:cap(boxes)] {
			boxes[:cap(boxes)][i] = r.box()
		}
		answers := slices.Clone(boxes[:cap(boxes)])
		stack.Content(l, 0, 50, boxes)
		stack.Content(l, 0, 50, boxes[:cap(boxes)])
		stack.Content(l, -1, 50, boxes)
		stack.Pile(boxes...)
		if !reflect.DeepEqual(allOf(l), before) || !slices.Equal(boxes[:cap(boxes)], answers) {
			t.Fatalf("%v became %v, %v became %v", before, allOf(l), answers, boxes[:cap(boxes)])
		}
	}
}

// P9.2: asks that have been returned are nobody else's, and no call hangs on those before it.
func TestAsksAreNewMemory(t *testing.T) {
	l := []api.Node{node(api.KCell, 1, 2, 3), node(api.KTable), node(api.KTable), node(api.KTable)}
	first, _ := stack.Asks(l, 0, 15)
	second, _ := stack.Asks(l, 0, 15)
	want := slices.Clone(second)
	for i := range first[:cap(first)] {
		first[:cap(first)][i] = ask(99, 99)
	}
	if !slices.Equal(second, want) {
		t.Errorf("the asks became %v", second)
	}
	wantAsks(t, l, 0, 15, want...)
	stack.Asks(l, 9, 15)
	stack.Content(l, 0, 15, nil)
	wantAsks(t, l, 0, 15, want...)
	wantContent(t, l, 0, 15, based(3, 6, 8, 3), box(1, 2, 2), based(2, 6, 5, 1), box(3, 4, 1))
	wantContent(t, l, 0, 15, based(3, 6, 8, 3), box(1, 2, 2), based(2, 6, 5, 1), box(3, 4, 1))
}
