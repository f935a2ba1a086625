package lanes_test

import (
	"math"
	"reflect"
	"slices"
	"testing"

	"purfling/api"
	"purfling/fixup"
	"purfling/lanes"
	"purfling/tree"
)

const (
	block, text, table, caption, colGroup, col = api.KBlock, api.KText, api.KTable, api.KCaption, api.KColGroup, api.KCol
	head, body, foot, row, cell                = api.KHead, api.KBody, api.KFoot, api.KRow, api.KCell
)

// n is a node of the kind, with these Kids.
func n(kind int, kids ...int) api.Node { return api.Node{Kind: kind, Kids: kids} }

// s is a node of the kind, with this ColSpan and these Kids.
func s(kind int, span int, kids ...int) api.Node {
	return api.Node{Kind: kind, Kids: kids, Style: api.Style{ColSpan: span}}
}

// ls has a lane for each pair of a node and a group.
func ls(pairs ...int) []api.Lane {
	var l []api.Lane
	for i := 0; i < len(pairs); i += 2 {
		l = append(l, api.Lane{Node: pairs[i], Group: pairs[i+1]})
	}
	return l
}

// times is so many lanes of one kind.
func times(lane api.Lane, many int) []api.Lane { return slices.Repeat([]api.Lane{lane}, many) }

func wantRows(t *testing.T, name string, l []api.Node, at int, want []api.Lane) {
	t.Helper()
	if got, err := lanes.Rows(l, at); !slices.Equal(got, want) || err != api.OK {
		t.Errorf("%s: Rows = %v, %d, want %v", name, got, err, want)
	}
}

func wantCols(t *testing.T, name string, l []api.Node, at int, least int, want []api.Lane) {
	t.Helper()
	if got, err := lanes.Cols(l, at, least); !slices.Equal(got, want) || err != api.OK {
		t.Errorf("%s: Cols = %v, %d, want %v", name, got, err, want)
	}
}

func wantCaptions(t *testing.T, name string, l []api.Node, at int, want []int) {
	t.Helper()
	if got, err := lanes.Captions(l, at); !slices.Equal(got, want) || err != api.OK {
		t.Errorf("%s: Captions = %v, %d, want %v", name, got, err, want)
	}
}

func wantColsFault(t *testing.T, name string, l []api.Node, at int, least int, want api.Errno) {
	t.Helper()
	if got, err := lanes.Cols(l, at, least); len(got) > 0 || err != want {
		t.Errorf("%s: Cols has %d columns, error %d, want error %d", name, len(got), err, want)
	}
}

// wantFault holds all three to one fault, and to nothing beside it.
func wantFault(t *testing.T, name string, l []api.Node, at int, want api.Errno) {
	t.Helper()
	if got, err := lanes.Rows(l, at); len(got) > 0 || err != want {
		t.Errorf("%s: Rows(%d) = %v, %d, want error %d", name, at, got, err, want)
	}
	if got, err := lanes.Captions(l, at); len(got) > 0 || err != want {
		t.Errorf("%s: Captions(%d) = %v, %d, want error %d", name, at, got, err, want)
	}
	for _, least := range []int{0, 1, 10000} {
		wantColsFault(t, name, l, at, least, want)
	}
}

// P6.1: the example of the chapter, and others written out.
func TestRows(t *testing.T) {
	for _, c := range []struct {
		name string
		l    []api.Node
		want []api.Lane
	}{
		{"no Kids", []api.Node{n(table)}, nil},
		{"a foot, a row, a head", []api.Node{n(table, 1, 2, 3), n(foot, 4), n(row), n(head, 5), n(row), n(row)}, ls(5, 3, 2, -1, 4, 1)},
		{"a head, a row, a foot", []api.Node{n(table, 1, 2, 3), n(head, 4), n(row), n(foot, 5), n(row), n(row)}, ls(4, 1, 2, -1, 5, 3)},
		{"rows alone, not in the order of their indexes", []api.Node{n(table, 2, 3, 1), n(row), n(row), n(row)}, ls(2, -1, 3, -1, 1, -1)},
		{"bodies and rows", []api.Node{n(table, 1, 2, 3, 4), n(body, 6, 5), n(row), n(body, 7), n(row), n(row), n(row), n(row)}, ls(6, 1, 5, 1, 2, -1, 7, 3, 4, -1)},
		{"two heads", []api.Node{n(table, 1, 2, 3, 4), n(row), n(head, 5), n(row), n(head, 6), n(row), n(row)}, ls(5, 2, 1, -1, 3, -1, 6, 4)},
		{"two feet", []api.Node{n(table, 1, 2, 3, 4), n(foot, 5), n(row), n(foot, 6), n(row), n(row), n(row)}, ls(2, -1, 6, 3, 4, -1, 5, 1)},
		{"the first head is not that of the lowest index", []api.Node{n(table, 2, 3, 1), n(head, 5), n(head, 4), n(row), n(row), n(row)}, ls(4, 2, 3, -1, 5, 1)},
		{"the first foot is not that of the lowest index", []api.Node{n(table, 2, 3, 1), n(foot, 5), n(foot, 4), n(row), n(row), n(row)}, ls(3, -1, 5, 1, 4, 2)},
		{"a first head without rows", []api.Node{n(table, 1, 2, 3), n(row), n(head), n(head, 4), n(row)}, ls(1, -1, 4, 3)},
		{"a first foot without rows", []api.Node{n(table, 1, 2, 3), n(foot), n(foot, 4), n(row), n(row)}, ls(4, 2, 3, -1)},
		{"a head alone", []api.Node{n(table, 1), n(head, 2, 3), n(row), n(row)}, ls(2, 1, 3, 1)},
		{"a foot alone", []api.Node{n(table, 1), n(foot, 3, 2), n(row), n(row)}, ls(3, 1, 2, 1)},
		{"a foot, and then a head", []api.Node{n(table, 1, 2), n(foot, 3), n(head, 4), n(row), n(row)}, ls(4, 2, 3, 1)},
		{
			"three heads and three feet, all mixed",
			[]api.Node{n(table, 1, 2, 3, 4, 5, 6, 7, 8), n(foot, 9), n(foot, 10), n(body, 11), n(head, 12), n(row), n(foot, 13), n(head, 14), n(head, 15), n(row), n(row), n(row), n(row), n(row), n(row), n(row)},
			ls(12, 4, 10, 2, 11, 3, 5, -1, 13, 6, 14, 7, 15, 8, 9, 1),
		},
		{
			"a table in a cell, whose rows are its own",
			[]api.Node{n(table, 1, 2), n(row, 3), n(foot), n(cell, 4), n(table, 5, 6), n(row), n(head, 7), n(row)},
			ls(1, -1),
		},
		{
			"other Kids, in the table and in a group, and rows in those",
			[]api.Node{n(table, 1, 2, 3, 4, 5, 6), n(cell, 7), n(caption, 8), n(body, 9, 10, 11), n(colGroup, 12, 13), n(text), n(block, 14), n(row), n(row), n(cell, 15), n(row), n(body, 16), n(row), n(head, 17), n(foot, 18), n(row), n(row), n(row), n(row)},
			ls(10, 3),
		},
	} {
		wantRows(t, c.name, c.l, 0, c.want)
	}
	l := []api.Node{n(block, 1, 2), n(table, 3), n(table, 5, 4), n(row, 6), n(head, 8), n(row), n(cell, 7), n(table, 9), n(row), n(foot, 10), n(row)}
	wantRows(t, "the first of three tables", l, 1, ls(3, -1))
	wantRows(t, "the second of three tables", l, 2, ls(8, 4, 5, -1))
	wantRows(t, "the third of three tables", l, 7, ls(10, 9))
}

// P6.1: captions are told in order, wherever they stand among the Kids, and no others.
func TestCaptions(t *testing.T) {
	for _, c := range []struct {
		name string
		l    []api.Node
		want []int
	}{
		{"no Kids", []api.Node{n(table)}, nil},
		{"none", []api.Node{n(table, 1, 2), n(row), n(colGroup)}, nil},
		{"one", []api.Node{n(table, 1), n(caption)}, []int{1}},
		{"three, not in the order of their indexes", []api.Node{n(table, 4, 2, 5, 1, 3), n(caption), n(row), n(caption), n(caption), n(body)}, []int{4, 1, 3}},
		{
			"in other Kids, in a caption, and in a table there",
			[]api.Node{n(table, 1, 2, 3), n(body, 4), n(colGroup, 5), n(caption, 6, 7), n(caption), n(caption), n(caption), n(table, 8), n(caption)},
			[]int{3},
		},
	} {
		wantCaptions(t, c.name, c.l, 0, c.want)
	}
	wantCaptions(t, "an inner table", []api.Node{n(table, 1, 2), n(caption, 3), n(caption), n(table, 4), n(caption)}, 3, []int{4})
	below := []api.Node{n(table, 1, 2, 3), n(caption), n(row), n(caption)}
	below[1].Style.Below = true
	wantCaptions(t, "one below, and one above", below, 0, []int{1, 3})
}

// P6.2: columns written out.
func TestCols(t *testing.T) {
	for _, c := range []struct {
		name  string
		l     []api.Node
		least int
		want  []api.Lane
	}{
		{"nothing", []api.Node{n(table)}, 0, nil},
		{"none, at least 1", []api.Node{n(table)}, 1, ls(-1, -1)},
		{"none, at least 3", []api.Node{n(table, 1), n(row)}, 3, ls(-1, -1, -1, -1, -1, -1)},
		{"one without a span", []api.Node{n(table, 1), n(col)}, 0, ls(1, -1)},
		{"one, at least 1", []api.Node{n(table, 1), s(col, 1)}, 1, ls(1, -1)},
		{"one of three, at least 2", []api.Node{n(table, 1), s(col, 3)}, 2, ls(1, -1, 1, -1, 1, -1)},
		{"one of two, at least 3", []api.Node{n(table, 1), s(col, 2)}, 3, ls(1, -1, 1, -1, -1, -1)},
		{"a group alone", []api.Node{n(table, 1), s(colGroup, 2)}, 0, ls(-1, 1, -1, 1)},
		{"a group without a span", []api.Node{n(table, 1), n(colGroup)}, 2, ls(-1, 1, -1, -1)},
		{"a group with columns, whose own span counts for nothing", []api.Node{n(table, 1), s(colGroup, 9, 3, 2), n(col), s(col, 2)}, 1, ls(3, 1, 3, 1, 2, 1)},
		{"spans below 1", []api.Node{n(table, 1, 2, 3, 4), s(col, -1000), s(colGroup, -3), s(colGroup, 5, 5), s(col, 0), s(col, -1)}, 0, ls(1, -1, -1, 2, 5, 3, 4, -1)},
		{
			"groups and columns, not in the order of their indexes",
			[]api.Node{n(table, 5, 2, 4, 1, 3), s(col, 2), n(colGroup, 7, 6), s(colGroup, 1), s(col, 1), s(colGroup, 3), s(col, 1), s(col, 2)},
			10,
			ls(-1, 5, -1, 5, -1, 5, 7, 2, 7, 2, 6, 2, 4, -1, 1, -1, 1, -1, -1, 3),
		},
		{"a group with other Kids, but no column", []api.Node{n(table, 1), s(colGroup, 2, 2, 3, 4), n(text), n(colGroup, 5), n(row), n(col)}, 0, ls(-1, 1, -1, 1)},
		{"a group with other Kids, and columns between", []api.Node{n(table, 1), s(colGroup, 3, 2, 3, 4, 5), n(text), n(col), n(colGroup), s(col, 2)}, 0, ls(3, 1, 5, 1, 5, 1)},
		{
			"columns and groups in what is no group of the table",
			[]api.Node{n(table, 1, 2, 3, 4, 5), n(caption, 6), n(row, 7), n(body, 8), n(cell, 9), n(head, 10), n(col), s(colGroup, 3), s(col, 4), n(table, 11), n(colGroup), s(col, 7)},
			1,
			ls(-1, -1),
		},
		{"spans of what is no column", []api.Node{s(table, 4, 1, 2, 3, 4), s(row, 3), s(col, 2), s(caption, 5), s(body, 6)}, 0, ls(2, -1, 2, -1)},
	} {
		wantCols(t, c.name, c.l, 0, c.least, c.want)
	}
	l := []api.Node{n(cell, 1, 2), n(table, 3), n(table, 4), s(col, 2), n(caption, 5), n(table, 6), s(colGroup, 3)}
	wantCols(t, "the first of three tables", l, 1, 0, ls(3, -1, 3, -1))
	wantCols(t, "the second of three tables", l, 2, 1, ls(-1, -1))
	wantCols(t, "the third of three tables", l, 5, 0, ls(-1, 6, -1, 6, -1, 6))
}

// spanned is a table with columns of these spans, one after the other.
func spanned(spans ...int) []api.Node {
	l := []api.Node{n(table)}
	for _, span := range spans {
		l[0].Kids = append(l[0].Kids, len(l))
		l = append(l, s(col, span))
	}
	return l
}

// grouped is a table with one group of columns of these spans.
func grouped(spans ...int) []api.Node {
	l := []api.Node{n(table, 1), n(colGroup)}
	for _, span := range spans {
		l[1].Kids = append(l[1].Kids, len(l))
		l = append(l, s(col, span))
	}
	return l
}

// P6.2: up to 10000 columns, whether they are asked for or the nodes yield them.
func TestMostCols(t *testing.T) {
	thousands := slices.Repeat([]int{1000}, 10)
	most := slices.Concat(thousands[:9], []int{999})
	wantCols(t, "10000 without a node", []api.Node{n(table)}, 0, 10000, times(api.Lane{Node: -1, Group: -1}, 10000))
	wantCols(t, "one of 10000", spanned(1), 0, 10000, append(ls(1, -1), times(api.Lane{Node: -1, Group: -1}, 9999)...))
	for _, least := range []int{0, 1, 9999, 10000} {
		for _, spans := range [][]int{thousands, append(slices.Clone(most), 1), append(slices.Clone(most), 0), slices.Repeat([]int{1}, 10000)} {
			for group, l := range map[int][]api.Node{-1: spanned(spans...), 1: grouped(spans...)} {
				got, err := lanes.Cols(l, 0, least)
				if len(got) != 10000 || err != api.OK || got[0].Group != group || got[9999] != (api.Lane{Node: len(l) - 1, Group: group}) {
					t.Errorf("10000 of %d nodes, at least %d: %d columns, error %d", len(l), least, len(got), err)
				}
			}
		}
		for _, spans := range [][]int{append(slices.Clone(thousands), 1), append(slices.Clone(thousands), -1), append(slices.Clone(most), 2), append(slices.Clone(most), 1, 1), slices.Repeat([]int{0}, 10001), slices.Repeat([]int{1000}, 65000)} {
			wantColsFault(t, "more than 10000 columns", spanned(spans...), 0, least, api.ErrMany)
			wantColsFault(t, "more than 10000 columns of a group", grouped(spans...), 0, least, api.ErrMany)
		}
		l := spanned(thousands...)
		l[10].Kind = colGroup
		if got, err := lanes.Cols(l, 0, least); len(got) != 10000 || err != api.OK || got[9999] != (api.Lane{Node: -1, Group: 10}) {
			t.Errorf("10000, the last of them of a group: %d columns, error %d", len(got), err)
		}
		l = append(l, n(colGroup))
		l[0].Kids = append(l[0].Kids, 11)
		wantColsFault(t, "10000, and a group", l, 0, least, api.ErrMany)
	}
}

// P6.1, P6.2: all three return the error of Check, and none other, wherever they are asked.
func TestPagesThatAreNotValid(t *testing.T) {
	wrongStyle := []api.Node{n(table, 1), s(col, 1001)}
	wrongHigh := []api.Node{n(table, 1), n(row)}
	wrongHigh[1].High = 1
	deep := make([]api.Node, 65)
	for i := range deep {
		deep[i].Kind = table
		if i < 64 {
			deep[i].Kids = []int{i + 1}
		}
	}
	wide := spanned(make([]int, 65536)...)
	for _, c := range []struct {
		name string
		l    []api.Node
		err  api.Errno
	}{
		{"nil", nil, api.ErrMany},
		{"none", []api.Node{}, api.ErrMany},
		{"65537", wide, api.ErrMany},
		{"no kind", []api.Node{n(table, 1), n(11)}, api.ErrKind},
		{"Kids of a column", []api.Node{n(table, 1), n(col, 2), n(row)}, api.ErrKind},
		{"a span of 1001", wrongStyle, api.ErrKind},
		{"a height of a row", wrongHigh, api.ErrKind},
		{"the root as a Kid", []api.Node{n(table, 0)}, api.ErrLink},
		{"a Kid beyond the end", []api.Node{n(table, 2), n(row)}, api.ErrLink},
		{"a Kid below 0", []api.Node{n(table, -1)}, api.ErrLink},
		{"a wrong Kid of a group", []api.Node{n(table, 1), n(head, math.MaxInt)}, api.ErrLink},
		{"a Kid twice", []api.Node{n(table, 1, 1), n(caption)}, api.ErrCycle},
		{"a Kid of none", []api.Node{n(table), n(row)}, api.ErrCycle},
		{"a circle", []api.Node{n(table), n(body, 2), n(table, 1)}, api.ErrCycle},
		{"65 tables", deep, api.ErrDeep},
	} {
		if _, err := tree.Check(c.l); err != c.err {
			t.Errorf("%s: Check returns %d, want %d", c.name, err, c.err)
		}
		for _, at := range []int{0, 1, 2, 64, -1, len(c.l), math.MinInt, math.MaxInt} {
			wantFault(t, c.name, c.l, at, c.err)
			for _, least := range []int{-1, 10001} {
				wantColsFault(t, c.name, c.l, at, least, c.err)
			}
		}
	}
	wantRows(t, "64 tables", deepTables(deep), 63, nil)
}

// deepTables leaves out the one that is too deep.
func deepTables(deep []api.Node) []api.Node {
	l := slices.Clone(deep[:64])
	l[63].Kids = nil
	return l
}

// P6.1, P6.2: a node of each other kind, and what is the index of none.
func TestNoTable(t *testing.T) {
	l := []api.Node{n(colGroup, 1, 2, 3, 4, 5, 6, 7, 8, 9, 10, 11), n(block, 12), n(text), n(table, 13), n(caption), n(colGroup, 14), n(col), n(head, 15), n(body, 16), n(foot, 17), n(row), n(cell), n(row), n(row), n(col), n(row), n(row), n(row)}
	if _, err := tree.Check(l); err != api.OK {
		t.Fatalf("Check returns %d", err)
	}
	for at, node := range l {
		if node.Kind != table {
			wantFault(t, "not a table", l, at, api.ErrArg)
			wantFault(t, "not a table, and alone", []api.Node{n(node.Kind)}, 0, api.ErrArg)
		}
	}
	for _, at := range []int{-1, -2, -3, -len(l), len(l), len(l) + 3, 1 << 32, 1<<32 + 3, math.MinInt, math.MinInt + 3, math.MaxInt} {
		wantFault(t, "not a node", l, at, api.ErrArg)
		wantFault(t, "not a node, and one table", []api.Node{n(table)}, at, api.ErrArg)
	}
	wantRows(t, "the table", l, 3, ls(13, -1))
}

// P6.2: n is in 0..10000, also where the nodes yield too many columns, and is asked for what is no table, too.
func TestWrongLeast(t *testing.T) {
	for _, least := range []int{-1, -2, -10000, 10001, 10002, 65536, 1 << 32, math.MinInt, math.MaxInt} {
		wantColsFault(t, "no Kids", []api.Node{n(table)}, 0, least, api.ErrArg)
		wantColsFault(t, "two columns", spanned(2), 0, least, api.ErrArg)
		wantColsFault(t, "10000 columns", spanned(slices.Repeat([]int{1000}, 10)...), 0, least, api.ErrArg)
		wantColsFault(t, "11000 columns", spanned(slices.Repeat([]int{1000}, 11)...), 0, least, api.ErrArg)
		wantColsFault(t, "no table", []api.Node{n(row)}, 0, least, api.ErrArg)
	}
	many := spanned(slices.Repeat([]int{1000}, 11)...)
	for _, at := range []int{-1, 1, 12} {
		wantColsFault(t, "no table, but 11000 columns beside", many, at, 0, api.ErrArg)
	}
}

// groups are rows with these groups; their nodes are nothing to go by.
func groups(l ...int) []api.Lane {
	var rows []api.Lane
	for i, group := range l {
		rows = append(rows, api.Lane{Node: i % 3, Group: group})
	}
	return rows
}

// P6.2: the example of the chapter, and others written out.
func TestEnds(t *testing.T) {
	for _, c := range []struct {
		groups []int
		want   []int
	}{
		{nil, nil},
		{[]int{4, 4, -1, 5, -1, 2}, []int{2, 2, 3, 4, 5, 6}},
		{[]int{7}, []int{1}},
		{[]int{-1}, []int{1}},
		{[]int{-1, -1}, []int{2, 2}},
		{[]int{0, 0, 0}, []int{3, 3, 3}},
		{[]int{3, 3, 9, 9, 9}, []int{2, 2, 5, 5, 5}},
		{[]int{3, 9, 3, 9}, []int{1, 2, 3, 4}},
		{[]int{3, 9, 9, 3, 3}, []int{1, 3, 3, 5, 5}},
		{[]int{-1, -1, 2, -1, -1, -1}, []int{2, 2, 3, 6, 6, 6}},
		{[]int{math.MinInt, math.MinInt, math.MaxInt, -5, -5, -1}, []int{2, 2, 3, 5, 5, 6}},
	} {
		if got := lanes.Ends(groups(c.groups...)); !slices.Equal(got, c.want) {
			t.Errorf("Ends for the groups %v = %v, want %v", c.groups, got, c.want)
		}
	}
	if got := lanes.Ends([]api.Lane{}); len(got) > 0 {
		t.Errorf("Ends of nothing = %v", got)
	}
}

// endByWords goes on as long as the group is the same.
func endByWords(rows []api.Lane, at int) int {
	end := at
	for end < len(rows) && rows[end].Group == rows[at].Group {
		end++
	}
	return end
}

func wantEnds(t *testing.T, rows []api.Lane) {
	t.Helper()
	got := lanes.Ends(rows)
	if len(got) != len(rows) {
		t.Fatalf("%d ends of %d rows", len(got), len(rows))
	}
	for at, end := range got {
		if want := endByWords(rows, at); end != want {
			t.Fatalf("Ends(%v)[%d] = %d, want %d", rows, at, end, want)
		}
	}
}

// P6.2: all lists of up to seven rows of three groups, and long ones.
func TestEndsOfAll(t *testing.T) {
	for length := range 8 {
		for i := range int(math.Pow(3, float64(length))) {
			l := make([]int, length)
			for at := range l {
				l[at] = i%3 - 1
				i /= 3
			}
			wantEnds(t, groups(l...))
		}
	}
	for _, length := range []int{65536, 1000000} {
		rows := times(api.Lane{Node: 5, Group: 8}, length)
		if ends := lanes.Ends(rows); len(ends) != length || ends[0] != length || ends[length-1] != length {
			t.Errorf("the ends of %d rows of one group", length)
		}
		for i := range rows {
			rows[i].Group = i / 100
		}
		for i, end := range lanes.Ends(rows) {
			if end != min((i/100+1)*100, length) {
				t.Fatalf("row %d of %d ends at %d", i, length, end)
			}
		}
	}
}

// kidsByWords are the Kids of one of the kinds, in order.
func kidsByWords(l []api.Node, at int, kinds ...int) []int {
	var kids []int
	for _, kid := range l[at].Kids {
		if slices.Contains(kinds, l[kid].Kind) {
			kids = append(kids, kid)
		}
	}
	return kids
}

// rowsByWords sorts the Kids: the first head is before all others, the first foot after them.
func rowsByWords(l []api.Node, at int) []api.Lane {
	place := func(kid int) int {
		switch {
		case kid == append(kidsByWords(l, at, head), -1)[0]:
			return 0
		case kid == append(kidsByWords(l, at, foot), -1)[0]:
			return 2
		}
		return 1
	}
	kids := kidsByWords(l, at, head, body, foot, row)
	slices.SortStableFunc(kids, func(a, b int) int { return place(a) - place(b) })
	var rows []api.Lane
	for _, kid := range kids {
		if l[kid].Kind == row {
			rows = append(rows, api.Lane{Node: kid, Group: -1})
			continue
		}
		for _, inner := range kidsByWords(l, kid, row) {
			rows = append(rows, api.Lane{Node: inner, Group: kid})
		}
	}
	return rows
}

func colsByWords(l []api.Node, at int, least int) []api.Lane {
	var cols []api.Lane
	add := func(node int, group int, span int) {
		cols = append(cols, times(api.Lane{Node: node, Group: group}, max(span, 1))...)
	}
	for _, kid := range kidsByWords(l, at, colGroup, col) {
		inner := kidsByWords(l, kid, col)
		switch {
		case l[kid].Kind == col:
			add(kid, -1, l[kid].Style.ColSpan)
		case len(inner) == 0:
			add(-1, kid, l[kid].Style.ColSpan)
		}
		for _, its := range inner {
			add(its, kid, l[its].Style.ColSpan)
		}
	}
	return append(cols, times(api.Lane{Node: -1, Group: -1}, max(0, least-len(cols)))...)
}

// wantOnce holds the rows to P6.3, without asking in which order the others are.
func wantOnce(t *testing.T, l []api.Node, at int, rows []api.Lane) {
	t.Helper()
	seen := map[int]int{}
	for _, r := range rows {
		seen[r.Node]++
	}
	sum := 0
	for _, parent := range append(kidsByWords(l, at, head, body, foot), at) {
		for _, kid := range kidsByWords(l, parent, row) {
			sum++
			if seen[kid] != 1 {
				t.Fatalf("the table %d of %d nodes: the row %d occurs %d times", at, len(l), kid, seen[kid])
			}
		}
	}
	if len(rows) != sum {
		t.Fatalf("the table %d of %d nodes: %d rows, want %d", at, len(l), len(rows), sum)
	}
	heads, feet := kidsByWords(l, at, head), kidsByWords(l, at, foot)
	for i := 1; i < len(rows); i++ {
		was, is := rows[i-1].Group, rows[i].Group
		if was != is && (len(heads) > 0 && is == heads[0] || len(feet) > 0 && was == feet[0]) {
			t.Fatalf("the table %d of %d nodes: the first head is not before all others, or the first foot not after them, at row %d", at, len(l), i)
		}
	}
}

// wantWords holds every table of a valid page to the chapter's words, and counts the rows and the columns.
func wantWords(t *testing.T, l []api.Node) (int, int) {
	t.Helper()
	rows, cols := 0, 0
	for at, node := range l {
		if node.Kind != table {
			continue
		}
		wantRows(t, "a page by words", l, at, rowsByWords(l, at))
		wantCaptions(t, "a page by words", l, at, kidsByWords(l, at, caption))
		for _, least := range []int{0, 1, 5, 12} {
			wantCols(t, "a page by words", l, at, least, colsByWords(l, at, least))
		}
		got, _ := lanes.Rows(l, at)
		wantOnce(t, l, at, got)
		wantEnds(t, got)
		rows += len(got)
		cols += len(colsByWords(l, at, 0))
	}
	if t.Failed() {
		t.Fatalf("the page is %v", l)
	}
	return rows, cols
}

// P6.1 to P6.3: tables with all kinds of up to four Kids, of which each that may has two rows and a column.
func TestAllSmallTables(t *testing.T) {
	for i := range 11 * 11 * 11 * 11 {
		l := []api.Node{n(table, 1, 2, 3, 4), s(i%11, 2), s(i/11%11, 0), s(i/121%11, 3), s(i/1331, 1)}
		for at := 1; at <= 4; at++ {
			if l[at].Kind != text && l[at].Kind != col {
				l[at].Kids = []int{len(l), len(l) + 1, len(l) + 2}
				l = append(l, n(row), s(col, at), n(row))
			}
		}
		wantWords(t, l)
	}
}

// numbers are the same in every run, so that what fails once fails again.
type numbers uint64

func (r *numbers) below(n int) int {
	*r = *r*6364136223846793005 + 1442695040888963407
	return int(uint64(*r) >> 33 % uint64(n))
}

// grown is a valid page of so many nodes, with indexes that are not in order, in which tables and groups are frequent.
func (r *numbers) grown(length int) []api.Node {
	at := make([]int, length)
	for i := range at {
		at[i] = i
	}
	for i := length - 1; i > 1; i-- {
		j := 1 + r.below(i)
		at[i], at[j] = at[j], at[i]
	}
	l := make([]api.Node, length)
	for i := 1; i < length; i++ {
		parent := at[i-1-r.below(min(i, 12))]
		l[parent].Kids = slices.Insert(l[parent].Kids, r.below(len(l[parent].Kids)+1), at[i])
	}
	for i := range l {
		kinds := []int{table, table, table, colGroup, head, body, foot, row, caption, cell}
		if len(l[i].Kids) == 0 {
			kinds = []int{row, row, row, col, col, text, block, table, colGroup, caption}
		}
		l[i].Kind = kinds[r.below(len(kinds))]
		l[i].Style.ColSpan = r.below(9) - 3
	}
	l[0].Kind = table
	return l
}

// P6.1 to P6.3: pages that have grown at random, as they are, and when they are fixed.
func TestRandomPages(t *testing.T) {
	r := numbers(11)
	rows, cols, rowsFixed := 0, 0, 0
	for range 1500 {
		l := r.grown(1 + r.below(30))
		if _, err := tree.Check(l); err != api.OK {
			t.Fatalf("Check(%v) returns %d", l, err)
		}
		more, moreCols := wantWords(t, l)
		rows, cols = rows+more, cols+moreCols
		fixed, _ := fixup.Fix(l)
		if _, err := tree.Check(fixed); err == api.OK {
			more, _ = wantWords(t, fixed)
			rowsFixed += more
		}
	}
	if rows < 2000 || cols < 2000 || rowsFixed < 5000 {
		t.Errorf("only %d rows, %d columns, and %d rows in fixed pages", rows, cols, rowsFixed)
	}
}

// P6.1, P6.3: a table with as many rows as a page has nodes for, the groups of which are not in the order of their rows.
func TestMostRows(t *testing.T) {
	l := make([]api.Node, 65536)
	l[0] = n(table, 3, 2, 1)
	l[1], l[2], l[3] = n(head), n(body), n(foot)
	for i := 4; i < len(l); i++ {
		l[i].Kind = row
		l[1+i%3].Kids = append(l[1+i%3].Kids, i)
	}
	got, err := lanes.Rows(l, 0)
	if len(got) != 65532 || err != api.OK {
		t.Fatalf("%d rows, error %d", len(got), err)
	}
	wantOnce(t, l, 0, got)
	if ends := lanes.Ends(got); ends[0] != 21844 || ends[21844] != 43688 || ends[65531] != 65532 {
		t.Errorf("the runs end at %d, %d, %d", ends[0], ends[21844], ends[65531])
	}
	flat := make([]api.Node, 65536)
	flat[0].Kind = table
	for i := 1; i < len(flat); i++ {
		flat[i].Kind = []int{row, caption, head, foot}[i%4]
		flat[0].Kids = append(flat[0].Kids, i)
	}
	if got, err := lanes.Rows(flat, 0); len(got) != 16383 || err != api.OK {
		t.Errorf("%d rows, error %d, want 16383", len(got), err)
	}
	if got, err := lanes.Captions(flat, 0); len(got) != 16384 || err != api.OK {
		t.Errorf("%d captions, error %d, want 16384", len(got), err)
	}
}

// rich is a page with all that the functions look for.
func rich() []api.Node {
	return []api.Node{
		n(table, 1, 2, 3, 4, 5, 6, 7, 8), n(caption), n(foot, 9, 10), n(row), n(head, 11), s(colGroup, 2), n(colGroup, 12, 13), s(col, -3), n(caption),
		n(row), n(row), n(row), s(col, 2), s(col, 1),
	}
}

// copied shares no memory with the page, and has nil for each empty list.
func copied(l []api.Node) []api.Node {
	c := slices.Clone(l)
	for i := range c {
		c[i].Kids = append([]int(nil), c[i].Kids...)
		c[i].Words = append([]int64(nil), c[i].Words...)
	}
	return c
}

// roomy is the page with spare capacity in every list, and something in it.
func roomy(l []api.Node) []api.Node {
	room := append(make([]api.Node, 0, len(l)+9), l...)
	for i := range room {
		room[i].Kids = append(append([]int{}, l[i].Kids...), 77, 78)[:len(l[i].Kids)]
	}
	for i := len(l); i < cap(room); i++ {
		room[:cap(room)][i] = api.Node{High: 81}
	}
	return room
}

// allOf is the page with its Kids and what is in the spare capacity.
func allOf(l []api.Node) []api.Node {
	all := slices.Clone(l[:cap(l)])
	for i, node := range all {
		all[i].Kids = slices.Clone(node.Kids[:cap(node.Kids)])
	}
	return all
}

// P6.1, P6.2: pages and rows are left as they are, and their spare capacity, too, with an error or without.
func TestArgumentsAreNotChanged(t *testing.T) {
	r := numbers(7)
	pages := [][]api.Node{rich(), {n(table, 5)}, {n(11)}, spanned(slices.Repeat([]int{1000}, 11)...)}
	for range 100 {
		pages = append(pages, r.grown(12))
	}
	for _, l := range pages {
		l = roomy(l)
		before := allOf(l)
		for at := -1; at <= len(l); at++ {
			lanes.Rows(l, at)
			lanes.Captions(l, at)
			lanes.Cols(l, at, at)
		}
		if !reflect.DeepEqual(allOf(l), before) {
			t.Errorf("%v became %v", before, allOf(l))
		}
	}
	rows := groups(4, 4, -1, -1, 5, 5, 5)[:6]
	before := slices.Clone(rows[:cap(rows)])
	if ends := lanes.Ends(rows); !slices.Equal(ends, []int{2, 2, 4, 4, 6, 6}) || !slices.Equal(rows[:cap(rows)], before) {
		t.Errorf("Ends = %v, and the rows became %v", ends, rows[:cap(rows)])
	}
}

// wreck writes to all that a list has, beyond its end, too.
func wreck[E any](l []E, with E) {
	for i := range l[:cap(l)] {
		l[:cap(l)][i] = with
	}
}

// P6.1, P6.2: what one call has returned is no part of the page, nor of what another one returns.
func TestAnswersAreNewMemory(t *testing.T) {
	l := rich()
	wantAll := func() {
		t.Helper()
		wantRows(t, "rich", l, 0, ls(11, 4, 3, -1, 9, 2, 10, 2))
		wantCols(t, "rich", l, 0, 7, ls(-1, 5, -1, 5, 12, 6, 12, 6, 13, 6, 7, -1, -1, -1))
		wantCaptions(t, "rich", l, 0, []int{1, 8})
	}
	wantAll()
	rows, _ := lanes.Rows(l, 0)
	cols, _ := lanes.Cols(l, 0, 7)
	captions, _ := lanes.Captions(l, 0)
	ends := lanes.Ends(rows)
	again := lanes.Ends(rows)
	wreck(rows, api.Lane{Node: 99, Group: 98})
	wreck(cols, api.Lane{Node: 97, Group: 96})
	wreck(captions, 95)
	wreck(ends, 94)
	if !slices.Equal(again, []int{1, 2, 4, 4}) || !reflect.DeepEqual(copied(l), copied(rich())) {
		t.Errorf("the ends became %v, the page %v", again, l)
	}
	wantAll()
	rows, _ = lanes.Rows(l, 0)
	captions, _ = lanes.Captions(l, 0)
	for i := range l {
		wreck(l[i].Kids, 0)
	}
	if !slices.Equal(rows, ls(11, 4, 3, -1, 9, 2, 10, 2)) || !slices.Equal(captions, []int{1, 8}) {
		t.Errorf("writing to the page, the rows became %v, the captions %v", rows, captions)
	}
}
