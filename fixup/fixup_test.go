package fixup_test

import (
	"math"
	"reflect"
	"slices"
	"testing"

	"purfling/api"
	"purfling/fixup"
	"purfling/style"
	"purfling/tree"
)

// permitted has the Kids that the chapter permits: a line for each kind of node, a place for each kind of Kid.
var permitted = [11]string{
	api.KBlock:    "111--------",
	api.KText:     "-----------",
	api.KTable:    "---1111111-",
	api.KCaption:  "111--------",
	api.KColGroup: "11111111111",
	api.KCol:      "-----------",
	api.KHead:     "---------1-",
	api.KBody:     "---------1-",
	api.KFoot:     "---------1-",
	api.KRow:      "----------1",
	api.KCell:     "111--------",
}

var around = [11]int{
	api.KBlock:    api.KTable,
	api.KText:     -1,
	api.KTable:    api.KRow,
	api.KCaption:  api.KTable,
	api.KColGroup: -1,
	api.KCol:      -1,
	api.KHead:     api.KRow,
	api.KBody:     api.KRow,
	api.KFoot:     api.KRow,
	api.KRow:      api.KCell,
	api.KCell:     api.KTable,
}

var noKinds = []int{math.MinInt, math.MinInt + 1, -1 << 32, -64, -12, -11, -10, -2, -1, 11, 12, 31, 32, 42, 63, 64, 65, 74, 1 << 32, 1<<32 + 9, math.MaxInt - 1, math.MaxInt}

// P5.1: each kind in each kind, and what is no kind.
func TestMay(t *testing.T) {
	for kind, line := range permitted {
		for kid, c := range line {
			if got := fixup.May(kind, kid); got != (c == '1') {
				t.Errorf("May(%d, %d) = %t", kind, kid, got)
			}
		}
		for _, n := range noKinds {
			if fixup.May(kind, n) || fixup.May(n, kind) {
				t.Errorf("May(%d, %d) = %t, the other way round %t", kind, n, fixup.May(kind, n), fixup.May(n, kind))
			}
		}
	}
	for _, a := range noKinds {
		for _, b := range noKinds {
			if fixup.May(a, b) {
				t.Errorf("May(%d, %d) = true", a, b)
			}
		}
	}
}

// P5.1: each kind, and what is no kind.
func TestAround(t *testing.T) {
	for kind, want := range around {
		if got := fixup.Around(kind); got != want {
			t.Errorf("Around(%d) = %d, want %d", kind, got, want)
		}
	}
	for _, n := range noKinds {
		if got := fixup.Around(n); got != -1 {
			t.Errorf("Around(%d) = %d, want -1", n, got)
		}
	}
}

// n is a node of the kind, with these Kids.
func n(kind int, kids ...int) api.Node { return api.Node{Kind: kind, Kids: kids} }

// copied shares no memory with the page, and has nil for each empty list.
func copied(l []api.Node) []api.Node {
	c := slices.Clone(l)
	for i := range c {
		c[i].Kids = append([]int(nil), c[i].Kids...)
		c[i].Words = append([]int64(nil), c[i].Words...)
	}
	return c
}

// computed is the page with computed styles.
func computed(l []api.Node) []api.Node {
	c := copied(l)
	for i := range c {
		c[i].Style, _ = style.Computed(c[i].Style)
	}
	return c
}

// wantFix holds Fix to the nodes: those that were there with computed styles, the new ones with ColSpan 1 and RowSpan 1.
func wantFix(t *testing.T, name string, l []api.Node, want []api.Node) {
	t.Helper()
	want = computed(want)
	for i := len(l); i < len(want); i++ {
		want[i].Style = api.Style{ColSpan: 1, RowSpan: 1}
	}
	got, err := fixup.Fix(l)
	if !reflect.DeepEqual(copied(got), want) || err != api.OK {
		t.Errorf("%s: Fix = %v, %d, want %v", name, got, err, want)
	}
	fixed, err := fixup.Fixed(l)
	if fixed != (len(want) == len(l)) || err != api.OK {
		t.Errorf("%s: Fixed = %t, %d for a page that gets %d nodes", name, fixed, err, len(want)-len(l))
	}
}

// P5.2: the examples of the chapter, and others written out.
func TestFix(t *testing.T) {
	const (
		block, text, table, caption, colGroup, col = api.KBlock, api.KText, api.KTable, api.KCaption, api.KColGroup, api.KCol
		head, body, foot, row, cell                = api.KHead, api.KBody, api.KFoot, api.KRow, api.KCell
	)
	for _, c := range []struct {
		name string
		l    []api.Node
		want []api.Node
	}{
		{
			"a block with a cell, a row and a text",
			[]api.Node{n(block, 1, 2, 3), n(cell), n(row, 4), n(text), n(text)},
			[]api.Node{n(block, 5, 3), n(cell), n(row, 6), n(text), n(text), n(table, 7, 2), n(cell, 4), n(row, 1)},
		},
		{
			"a table with a cell and a text",
			[]api.Node{n(table, 1, 2), n(cell), n(text)},
			[]api.Node{n(table, 3), n(cell), n(text), n(row, 1, 4), n(cell, 2)},
		},
		{
			"runs at both ends and between",
			[]api.Node{n(table, 1, 2, 3, 4, 5, 6, 7), n(cell), n(cell), n(row), n(cell), n(caption), n(col), n(cell)},
			[]api.Node{n(table, 8, 3, 9, 5, 6, 10), n(cell), n(cell), n(row), n(cell), n(caption), n(col), n(cell), n(row, 1, 2), n(row, 4), n(row, 7)},
		},
		{
			"runs between, of Kids that are not in the order of their indexes",
			[]api.Node{n(block, 3, 5, 1, 4, 2), n(row), n(block), n(text), n(cell), n(col)},
			[]api.Node{n(block, 3, 6, 2), n(row), n(block), n(text), n(cell), n(col), n(table, 5, 1, 7), n(row, 4)},
		},
		{
			"the lower index first, though it lies deeper",
			[]api.Node{n(table, 3), n(row, 2), n(text), n(body, 1, 4), n(cell)},
			[]api.Node{n(table, 3), n(row, 5), n(text), n(body, 1, 6), n(cell), n(cell, 2), n(row, 4)},
		},
		{
			"the lower index first, though it comes later",
			[]api.Node{n(block, 2, 1), n(table, 3), n(table, 4), n(text), n(text)},
			[]api.Node{n(block, 2, 1), n(table, 5), n(table, 6), n(text), n(text), n(row, 7), n(row, 8), n(cell, 3), n(cell, 4)},
		},
		{
			"a new node fixed after all that were there",
			[]api.Node{n(head, 1), n(cell, 2), n(cell)},
			[]api.Node{n(head, 3), n(cell, 4), n(cell), n(row, 1), n(table, 5), n(row, 2)},
		},
		{
			"a row, a cell and a table missing",
			[]api.Node{n(foot, 1, 2, 3), n(colGroup), n(row), n(col)},
			[]api.Node{n(foot, 4, 2, 5), n(colGroup), n(row), n(col), n(row, 6), n(row, 7), n(cell, 8), n(cell, 9), n(table, 1), n(table, 3)},
		},
		{
			"all kinds in a table",
			[]api.Node{n(table, 1, 2, 3, 4, 5, 6, 7, 8, 9, 10, 11), n(block), n(text), n(table), n(caption), n(colGroup), n(col), n(head), n(body), n(foot), n(row), n(cell)},
			[]api.Node{n(table, 12, 4, 5, 6, 7, 8, 9, 10, 13), n(block), n(text), n(table), n(caption), n(colGroup), n(col), n(head), n(body), n(foot), n(row), n(cell), n(row, 14), n(row, 11), n(cell, 1, 2, 3)},
		},
		{
			"all kinds in a cell",
			[]api.Node{n(cell, 1, 2, 3, 4, 5, 6, 7, 8, 9, 10, 11), n(block), n(text), n(table), n(caption), n(colGroup), n(col), n(head), n(body), n(foot), n(row), n(cell)},
			[]api.Node{n(cell, 1, 2, 3, 12), n(block), n(text), n(table), n(caption), n(colGroup), n(col), n(head), n(body), n(foot), n(row), n(cell), n(table, 4, 5, 6, 7, 8, 9, 10, 13), n(row, 11)},
		},
		{
			"all kinds in a row",
			[]api.Node{n(row, 1, 2, 3, 4, 5, 6, 7, 8, 9, 10, 11), n(cell), n(block), n(text), n(table), n(caption), n(colGroup), n(col), n(head), n(body), n(foot), n(row)},
			[]api.Node{n(row, 1, 12), n(cell), n(block), n(text), n(table), n(caption), n(colGroup), n(col), n(head), n(body), n(foot), n(row), n(cell, 2, 3, 4, 13), n(table, 5, 6, 7, 8, 9, 10, 11)},
		},
		{
			"all kinds in a body",
			[]api.Node{n(body, 1, 2, 3, 4, 5, 6, 7, 8, 9, 10, 11), n(cell), n(row), n(text), n(table), n(caption), n(colGroup), n(col), n(head), n(body), n(foot), n(cell)},
			[]api.Node{n(body, 12, 2, 13), n(cell), n(row), n(text), n(table), n(caption), n(colGroup), n(col), n(head), n(body), n(foot), n(cell), n(row, 1), n(row, 14, 11), n(cell, 3, 4, 15), n(table, 5, 6, 7, 8, 9, 10)},
		},
		{
			"all kinds in a column group, and what is in those",
			[]api.Node{n(colGroup, 1, 2, 3, 4, 5, 6, 7, 8, 9, 10, 11), n(block, 12), n(text), n(table), n(caption), n(colGroup), n(col), n(head), n(body), n(foot), n(row), n(cell), n(cell)},
			[]api.Node{n(colGroup, 1, 2, 3, 4, 5, 6, 7, 8, 9, 10, 11), n(block, 13), n(text), n(table), n(caption), n(colGroup), n(col), n(head), n(body), n(foot), n(row), n(cell), n(cell), n(table, 14), n(row, 12)},
		},
		{"a text alone", []api.Node{n(text)}, []api.Node{n(text)}},
		{"a cell alone, which is no Kid", []api.Node{n(cell)}, []api.Node{n(cell)}},
		{"a column alone", []api.Node{n(col)}, []api.Node{n(col)}},
		{"an empty table", []api.Node{n(table)}, []api.Node{n(table)}},
	} {
		wantFix(t, c.name, c.l, c.want)
	}
}

// wrappings are the kinds that have to come between a node and its Kid.
func wrappings(kind int, kid int) []int {
	var l []int
	for permitted[kind][kid] != '1' {
		kind = around[kind]
		l = append(l, kind)
	}
	return l
}

// P5.2: one Kid of each kind in a node of each kind gets as many nodes around it as it needs, one in the other.
func TestFixOneKid(t *testing.T) {
	most := 0
	for kind := range 11 {
		if kind == api.KText || kind == api.KCol {
			continue
		}
		for kid := range 11 {
			l := []api.Node{n(kind, 1), n(kid)}
			want := copied(l)
			inner := 0
			for _, wrap := range wrappings(kind, kid) {
				want[inner].Kids = []int{len(want)}
				inner = len(want)
				want = append(want, n(wrap, 1))
			}
			most = max(most, len(want)-len(l))
			wantFix(t, "one Kid", l, want)
		}
	}
	if most != 3 {
		t.Errorf("%d new nodes around one, want 3", most)
	}
}

// rich is a page with something in every field.
func rich() []api.Node {
	l := []api.Node{n(api.KTable, 1, 3, 2), n(api.KCell, 4), n(api.KCol), n(api.KText), n(api.KText)}
	l[0].Style = api.Style{Pad: [4]int64{-1, 2, -3, 4}, Border: [4]api.Line{{Width: 5}, {Style: api.BSolid, Width: 6, Color: 7}}, RowSpan: -3, Fixed: true, Collapse: true, Spacing: [2]int64{-1, 3}}
	l[1].Style = api.Style{Width: api.Size{N: 9}, Height: api.Size{Kind: api.SizeLen, N: -9}, ColSpan: -2, RowSpan: 0, Hide: true}
	l[2].Style = api.Style{ColSpan: 4, RowSpan: 5, Width: api.Size{Kind: api.SizeShare, N: 10000000}}
	l[3].Style, l[3].Words, l[3].Blank, l[3].High = api.Style{Align: api.AlignMiddle, Below: true}, []int64{0, 9, 4}, 2, 8
	l[4].Words, l[4].High = []int64{1073741824}, 1073741824
	return l
}

// P5.2: styles are computed, the new nodes have none of their neighbours', and words, blanks and heights stay as they are.
func TestFixStyles(t *testing.T) {
	want := rich()
	want[0].Kids = []int{5, 2}
	want = append(want, n(api.KRow, 1, 6), n(api.KCell, 3))
	wantFix(t, "rich", rich(), want)
	got, err := fixup.Fix(rich())
	if err != api.OK || len(got) != 7 {
		t.Fatalf("Fix = %v, %d", got, err)
	}
	if s := got[0].Style; s.RowSpan != 1 || s.ColSpan != 1 || s.Pad != [4]int64{0, 2, 0, 4} || s.Border[0].Width != 0 || s.Border[1].Width != 6 || !s.Fixed || !s.Collapse {
		t.Errorf("the table's style is %v", s)
	}
	if s := got[1].Style; s.RowSpan != 0 || s.ColSpan != 1 || s.Width.N != 0 || s.Height.N != 0 {
		t.Errorf("the cell's style is %v", s)
	}
}

// chain is a path of nodes of one kind.
func chain(kind int, length int) []api.Node {
	l := make([]api.Node, length)
	for i := range l {
		l[i].Kind = kind
		if i+1 < length {
			l[i].Kids = []int{i + 1}
		}
	}
	return l
}

// fan is a node with Kids that are all of the kinds, in turn.
func fan(kind int, length int, kinds ...int) []api.Node {
	l := make([]api.Node, length)
	l[0].Kind = kind
	for i := 1; i < length; i++ {
		l[0].Kids = append(l[0].Kids, i)
		l[i].Kind = kinds[(i-1)%len(kinds)]
	}
	return l
}

// P5.2: both return the error of Check, and nothing else, whatever else the page lacks.
func TestErrors(t *testing.T) {
	wrongStyle := []api.Node{n(api.KRow, 1), n(api.KText)}
	wrongStyle[1].Style.Align = 4
	wrongHigh := []api.Node{n(api.KBlock, 1), n(api.KCell)}
	wrongHigh[1].High = 1
	for _, c := range []struct {
		name string
		l    []api.Node
		err  api.Errno
	}{
		{"nil", nil, api.ErrMany},
		{"none", []api.Node{}, api.ErrMany},
		{"65537", fan(api.KBlock, 65537, api.KText), api.ErrMany},
		{"65537, to be fixed", fan(api.KBlock, 65537, api.KRow), api.ErrMany},
		{"no kind", []api.Node{n(api.KBlock, 1), n(11)}, api.ErrKind},
		{"no kind below 0", []api.Node{n(-1)}, api.ErrKind},
		{"the greatest kind", []api.Node{n(math.MaxInt, 1), n(api.KCell)}, api.ErrKind},
		{"Kids of a text", []api.Node{n(api.KText, 1), n(api.KText)}, api.ErrKind},
		{"Kids of a column", []api.Node{n(api.KCol, 1), n(api.KCol)}, api.ErrKind},
		{"a wrong style", wrongStyle, api.ErrKind},
		{"a height of a cell", wrongHigh, api.ErrKind},
		{"the root as a Kid", []api.Node{n(api.KBlock, 0)}, api.ErrLink},
		{"a Kid beyond the end", []api.Node{n(api.KTable, 1, 2), n(api.KRow)}, api.ErrLink},
		{"a Kid where the first new node would be", []api.Node{n(api.KTable, 1), n(api.KCell, 2)}, api.ErrLink},
		{"a Kid below 0", []api.Node{n(api.KTable, -1)}, api.ErrLink},
		{"a Kid twice", []api.Node{n(api.KTable, 1, 1), n(api.KCell)}, api.ErrCycle},
		{"a Kid of none", []api.Node{n(api.KTable), n(api.KRow)}, api.ErrCycle},
		{"a circle", []api.Node{n(api.KTable), n(api.KRow, 2), n(api.KCell, 1)}, api.ErrCycle},
		{"65 blocks", chain(api.KBlock, 65), api.ErrDeep},
		{"65 rows", chain(api.KRow, 65), api.ErrDeep},
	} {
		if _, err := tree.Check(c.l); err != c.err {
			t.Errorf("%s: Check returns %d, want %d", c.name, err, c.err)
		}
		if got, err := fixup.Fix(c.l); len(got) > 0 || err != c.err {
			t.Errorf("%s: Fix = %v, %d, want error %d", c.name, got, err, c.err)
		}
		if got, err := fixup.Fixed(c.l); got || err != c.err {
			t.Errorf("%s: Fixed = %t, %d, want error %d", c.name, got, err, c.err)
		}
	}
}

// P5.2: one Kid that is not permitted is found wherever it is.
func TestFixedFindsEach(t *testing.T) {
	for length := 1; length <= 6; length++ {
		for at := range length {
			l := fan(api.KCell, length+1, api.KText, api.KBlock, api.KTable)
			if got, err := fixup.Fixed(l); !got || err != api.OK {
				t.Errorf("Fixed(%v) = %t, %d, want true", l, got, err)
			}
			l[at+1].Kind = api.KCol
			if got, err := fixup.Fixed(l); got || err != api.OK {
				t.Errorf("Fixed(%v) = %t, %d, want false", l, got, err)
			}
			below := chain(api.KBlock, length+1)
			below[at+1].Kind = api.KCaption
			if got, err := fixup.Fixed(below); got || err != api.OK {
				t.Errorf("Fixed(%v) = %t, %d, want false", below, got, err)
			}
		}
	}
}

// runByWords is where the first run of Kids that are not permitted begins and ends.
func runByWords(l []api.Node, at int) (int, int) {
	wrong := func(kid int) bool { return permitted[l[at].Kind][l[kid].Kind] != '1' }
	from := slices.IndexFunc(l[at].Kids, wrong)
	if from < 0 {
		return -1, -1
	}
	to := from
	for to < len(l[at].Kids) && wrong(l[at].Kids[to]) {
		to++
	}
	return from, to
}

// fixByWords replaces one run after the other, from the first node on.
func fixByWords(l []api.Node) []api.Node {
	l = computed(l)
	for at := 0; at < len(l); at++ {
		for {
			from, to := runByWords(l, at)
			if from < 0 {
				break
			}
			kids := slices.Clone(l[at].Kids)
			l = append(l, api.Node{Kind: around[l[at].Kind], Kids: kids[from:to], Style: api.Style{ColSpan: 1, RowSpan: 1}})
			l[at].Kids = slices.Concat(kids[:from], []int{len(l) - 1}, kids[to:])
		}
	}
	return copied(l)
}

// preorder goes down without asking how deep.
func preorder(l []api.Node, at int) []int {
	order := []int{at}
	for _, kid := range l[at].Kids {
		order = append(order, preorder(l, kid)...)
	}
	return order
}

// wantProperties holds a page to P5.3, and to the chapter's words.
func wantProperties(t *testing.T, l []api.Node) []api.Node {
	t.Helper()
	got, err := fixup.Fix(l)
	if want := fixByWords(l); !reflect.DeepEqual(copied(got), want) || err != api.OK {
		t.Fatalf("Fix(%v) = %v, %d, want %v", l, got, err, want)
	}
	for i := range l {
		if got[i].Kind != l[i].Kind {
			t.Errorf("Fix(%v): node %d is of kind %d", l, i, got[i].Kind)
		}
	}
	order := slices.DeleteFunc(preorder(got, 0), func(at int) bool { return at >= len(l) })
	if want := preorder(l, 0); !slices.Equal(order, want) {
		t.Errorf("Fix(%v): the order is %v, want %v", l, order, want)
	}
	was, err := fixup.Fixed(l)
	if was != (len(got) == len(l)) || err != api.OK {
		t.Errorf("Fixed(%v) = %t, %d for %d new nodes", l, was, err, len(got)-len(l))
	}
	if was && !reflect.DeepEqual(copied(got), computed(l)) {
		t.Errorf("Fix(%v) = %v, though it was fixed", l, got)
	}
	_, deep := tree.Check(got)
	again, err := fixup.Fix(got)
	if err != deep || err == api.OK && !reflect.DeepEqual(copied(again), copied(got)) {
		t.Errorf("Fix(%v) = %v, %d, though it was fixed", got, again, err)
	}
	if fixed, err := fixup.Fixed(got); fixed != (deep == api.OK) || err != deep {
		t.Errorf("Fixed(%v) = %t, %d", got, fixed, err)
	}
	return got
}

// P5.2, P5.3: a node of each kind with three Kids of all kinds, and all chains of four.
func TestAllSmallPages(t *testing.T) {
	for i := range 11 * 11 * 11 * 11 {
		kinds := []int{i % 11, i / 11 % 11, i / 121 % 11, i / 1331}
		l := fan(kinds[0], 4, kinds[1:]...)
		if kinds[0] != api.KText && kinds[0] != api.KCol {
			wantProperties(t, l)
		}
		down := chain(0, 4)
		for at, kind := range kinds {
			down[at].Kind = kind
		}
		if _, err := tree.Check(down); err == api.OK {
			wantProperties(t, down)
		}
	}
}

// numbers are the same in every run, so that what fails once fails again.
type numbers uint64

func (r *numbers) below(n int) int {
	*r = *r*6364136223846793005 + 1442695040888963407
	return int(uint64(*r) >> 33 % uint64(n))
}

// grown is a valid page of so many nodes, most of them below one of the last `near` before, of any kinds, with indexes that are not in order.
func (r *numbers) grown(length int, near int) []api.Node {
	at := make([]int, length)
	for i := range at {
		at[i] = i
	}
	for i := length - 1; i > 1; i-- {
		j := 1 + r.below(i)
		at[i], at[j] = at[j], at[i]
	}
	l := make([]api.Node, length)
	for i := 1; i < length; i++ {
		parent := at[i-1-r.below(min(i, near))]
		l[parent].Kids = slices.Insert(l[parent].Kids, r.below(len(l[parent].Kids)+1), at[i])
	}
	for i := range l {
		r.dress(&l[i])
	}
	return l
}

// dress sets what a node may have, but for its Kids.
func (r *numbers) dress(node *api.Node) {
	node.Kind = r.below(11)
	for len(node.Kids) > 0 && (node.Kind == api.KText || node.Kind == api.KCol) {
		node.Kind = r.below(11)
	}
	if node.Kind == api.KText {
		node.Words, node.Blank, node.High = []int64{int64(r.below(9)), 5}[:r.below(3)], int64(r.below(9)), int64(r.below(9))
	}
	node.Style.ColSpan, node.Style.RowSpan = r.below(9)-4, r.below(9)-4
	node.Style.Pad[r.below(4)] = int64(r.below(9) - 4)
	node.Style.Border[r.below(4)] = api.Line{Style: r.below(10), Width: int64(r.below(9) - 4), Color: uint32(r.below(9))}
	node.Style.Width = api.Size{Kind: r.below(2), N: int64(r.below(9) - 4)}
	node.Style.Align, node.Style.Collapse = r.below(4), r.below(2) == 1
}

// P5.2, P5.3: pages that have grown at random, broad and deep.
func TestRandomPages(t *testing.T) {
	r := numbers(5)
	deeper, nodes := 0, 0
	for i := range 3000 {
		length, near := 1+r.below(14), 8
		if i%10 == 0 {
			length, near = 40+r.below(80), 4
		}
		l := r.grown(length, near)
		if _, err := tree.Check(l); err != api.OK {
			continue
		}
		got := wantProperties(t, l)
		if _, err := tree.Check(got); err == api.ErrDeep {
			deeper++
		}
		nodes += len(got) - len(l)
		if t.Failed() {
			t.FailNow()
		}
	}
	if deeper < 30 || nodes < 3000 {
		t.Errorf("%d pages became deeper than 64, and all of them got %d new nodes", deeper, nodes)
	}
}

// P5.3: what is fixed may be deeper than 64, and then it is fixed no more.
func TestFixedPageMayBeTooDeep(t *testing.T) {
	l := chain(api.KBlock, 64)
	wantFix(t, "64 blocks", l, chain(api.KBlock, 64))
	l[63].Kind = api.KCell
	want := copied(l)
	want[62].Kids = []int{64}
	want = append(want, n(api.KTable, 65), n(api.KRow, 63))
	wantFix(t, "63 blocks, and a cell", l, want)
	wantTooMuch(t, want, api.ErrDeep)
	for _, kind := range []int{api.KHead, api.KRow, api.KTable, api.KCell, api.KCaption} {
		got := wantProperties(t, chain(kind, 64))
		wantTooMuch(t, got, api.ErrDeep)
	}
	l = chain(api.KBlock, 63)
	l[61].Kind, l[62].Kind = api.KTable, api.KCell
	if got := wantProperties(t, l); len(got) != 64 {
		t.Errorf("Fix(%v) = %v", l, got)
	}
}

func wantTooMuch(t *testing.T, l []api.Node, want api.Errno) {
	t.Helper()
	if got, err := fixup.Fix(l); len(got) > 0 || err != want {
		t.Errorf("Fix has %d nodes, error %d, want error %d", len(got), err, want)
	}
	if got, err := fixup.Fixed(l); got || err != want {
		t.Errorf("Fixed = %t, %d, want error %d", got, err, want)
	}
}

// P5.2, P5.3: as many nodes as there may be, in one run, in as many runs as they can be, and at random; a fixed page may have more of them.
func TestMostNodes(t *testing.T) {
	l := fan(api.KBlock, 65536, api.KText, api.KBlock, api.KTable)
	wantFix(t, "65536 that are fixed", l, l)
	l = fan(api.KBlock, 65536, api.KRow)
	got, err := fixup.Fix(l)
	if len(got) != 65537 || err != api.OK || !slices.Equal(got[0].Kids, []int{65536}) || len(got[65536].Kids) != 65535 {
		t.Errorf("one run: %d nodes, error %d", len(got), err)
	}
	l = fan(api.KFoot, 65536, api.KCol, api.KRow)
	got, err = fixup.Fix(l)
	if len(got) != 65536+3*32768 || err != api.OK || len(got[0].Kids) != 65535 {
		t.Fatalf("32768 runs: %d nodes, error %d", len(got), err)
	}
	for i := range 32768 {
		row, cell, table := got[65536+i], got[65536+32768+i], got[65536+65536+i]
		if got[0].Kids[2*i] != 65536+i || row.Kind != api.KRow || row.Kids[0] != 65536+32768+i || cell.Kind != api.KCell || cell.Kids[0] != 65536+65536+i || table.Kind != api.KTable || !slices.Equal(table.Kids, []int{2*i + 1}) {
			t.Fatalf("run %d: %v, %v, %v", i, row, cell, table)
		}
	}
	wantTooMuch(t, got, api.ErrMany)
	r := numbers(6)
	l = r.grown(65536, 60000)
	if got, err := fixup.Fix(l); !reflect.DeepEqual(copied(got), fixByWords(l)) || err != api.OK {
		t.Errorf("65536 at random: %d nodes, error %d", len(got), err)
	}
}

// roomy is the page with spare capacity in every list, and something in it.
func roomy(l []api.Node) []api.Node {
	room := append(make([]api.Node, 0, len(l)+9), l...)
	for i := range room {
		room[i].Kids = append(append([]int{}, l[i].Kids...), 77, 78)[:len(l[i].Kids)]
		room[i].Words = append(append([]int64{}, l[i].Words...), 79, 80)[:len(l[i].Words)]
	}
	for i := len(l); i < cap(room); i++ {
		room[:cap(room)][i] = api.Node{High: 81}
	}
	return room
}

// allOf is the page with its lists and what is in their spare capacity.
func allOf(l []api.Node) []api.Node {
	all := slices.Clone(l[:cap(l)])
	for i, node := range all {
		all[i].Kids = slices.Clone(node.Kids[:cap(node.Kids)])
		all[i].Words = slices.Clone(node.Words[:cap(node.Words)])
	}
	return all
}

// P5.2: a page that is fixed is left as it is, and its spare capacity, too.
func TestPagesAreNotChanged(t *testing.T) {
	r := numbers(7)
	pages := [][]api.Node{rich(), chain(api.KRow, 70), {n(api.KTable, 5)}, {n(11)}, fan(api.KHead, 9, api.KCol, api.KRow)}
	for range 100 {
		pages = append(pages, r.grown(12, 5))
	}
	for _, l := range pages {
		l = roomy(l)
		before := allOf(l)
		fixup.Fix(l)
		fixup.Fixed(l)
		if !reflect.DeepEqual(allOf(l), before) {
			t.Errorf("%v became %v", before, allOf(l))
		}
	}
}

// fill writes to all that a list has, beyond its end, too.
func fill[N int | int64](l []N) {
	for i := range l[:cap(l)] {
		l[:cap(l)][i] = 99
	}
}

// P5.2: the nodes that come back share no memory with those that went in, nor with each other, even where those did.
func TestAnswersAreNewMemory(t *testing.T) {
	kids := []int{1, 2, 3, 4, 5, 6, 7}
	words := make([]int64, 3, 10)
	l := fan(api.KBlock, 8, api.KRow, api.KText, api.KCell, api.KRow, api.KBlock, api.KTable, api.KText)
	l[0].Kids, l[4].Kids, l[5].Kids = kids[:5], kids[5:6], kids[6:] // all of one array
	l[2].Words, l[7].Words = words, words[:2]
	before := copied(l)
	first, _ := fixup.Fix(l)
	second, err := fixup.Fix(l)
	want := copied(second)
	if err != api.OK || len(want) < 11 {
		t.Fatalf("Fix(%v) = %v, %d", l, second, err)
	}
	for i := range first {
		fill(first[i].Kids)
		fill(first[i].Words)
		if !reflect.DeepEqual(copied(first[i+1:]), want[i+1:]) {
			t.Errorf("writing to the lists of %d, the nodes after it became %v", i, first[i+1:])
		}
		first[i] = n(api.KRow)
	}
	if !reflect.DeepEqual(copied(second), want) || !reflect.DeepEqual(copied(l), before) || len(slices.Compact(slices.Clone(words[:10]))) != 1 {
		t.Errorf("the page became %v, its nodes %v", l, second)
	}
	fill(kids)
	fill(words)
	if !reflect.DeepEqual(copied(second), want) {
		t.Errorf("the nodes became %v", second)
	}
}
