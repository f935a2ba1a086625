package tree_test

import (
	"math"
	"reflect"
	"slices"
	"testing"

	"purfling/api"
	"purfling/style"
	"purfling/tree"
)

const px = 1073741824

// page has blocks with these Kids.
func page(kids ...[]int) []api.Node {
	l := make([]api.Node, len(kids))
	for i, k := range kids {
		l[i].Kids = k
	}
	return l
}

// chain is a path of n blocks, from the first to the last.
func chain(n int) []api.Node {
	l := make([]api.Node, n)
	for i := range n - 1 {
		l[i].Kids = []int{i + 1}
	}
	return l
}

// fan is a root with n-1 Kids.
func fan(n int) []api.Node {
	l := make([]api.Node, n)
	for i := 1; i < n; i++ {
		l[0].Kids = append(l[0].Kids, i)
	}
	return l
}

// copied shares no memory with the page.
func copied(l []api.Node) []api.Node {
	c := slices.Clone(l)
	for i := range c {
		c[i].Kids = append([]int(nil), c[i].Kids...)
		c[i].Words = append([]int64(nil), c[i].Words...)
	}
	return c
}

// wantFault holds all functions to one fault: Check tells it and its place, the others tell it and nothing else.
func wantFault(t *testing.T, name string, l []api.Node, at int, err api.Errno) {
	t.Helper()
	if gotAt, got := tree.Check(l); gotAt != at || got != err {
		t.Errorf("%s: Check = %d, %d, want %d, %d", name, gotAt, got, at, err)
	}
	if order, got := tree.Order(l); len(order) > 0 || got != err {
		t.Errorf("%s: Order has %d nodes, error %d, want error %d", name, len(order), got, err)
	}
	if depths, got := tree.Depths(l); len(depths) > 0 || got != err {
		t.Errorf("%s: Depths has %d nodes, error %d, want error %d", name, len(depths), got, err)
	}
	if parents, got := tree.Parents(l); len(parents) > 0 || got != err {
		t.Errorf("%s: Parents has %d nodes, error %d, want error %d", name, len(parents), got, err)
	}
	if nodes, got := tree.Computed(l); len(nodes) > 0 || got != err {
		t.Errorf("%s: Computed has %d nodes, error %d, want error %d", name, len(nodes), got, err)
	}
}

func wantRight(t *testing.T, name string, l []api.Node) {
	t.Helper()
	if at, err := tree.Check(l); at != 0 || err != api.OK {
		t.Errorf("%s: Check = %d, %d, want 0, 0", name, at, err)
	}
}

// P4.1, P4.2: there are 1 to 65536 nodes; no other fault is told where there are not.
func TestHowManyNodes(t *testing.T) {
	wantFault(t, "nil", nil, 0, api.ErrMany)
	wantFault(t, "none", []api.Node{}, 0, api.ErrMany)
	wantFault(t, "65537", fan(65537), 0, api.ErrMany)
	wantFault(t, "65537, not one of which is right", slices.Repeat([]api.Node{{Kind: -1, Kids: []int{0}}}, 65537), 0, api.ErrMany)
	wantRight(t, "1", make([]api.Node, 1))
	l := fan(65536)
	wantRight(t, "65536", l)
	l[65535].Kind = 11
	wantFault(t, "65536, the last of which is not valid", l, 65535, api.ErrKind)
}

func text(n api.Node) api.Node {
	n.Kind = api.KText
	return n
}

// P4.1: what a node that is not valid may be, at the edges and far beyond them.
func TestWrongNodes(t *testing.T) {
	wrong := []api.Node{
		{Style: api.Style{Align: 4}},
		{Style: api.Style{ColSpan: -1001}},
		{Style: api.Style{Border: [4]api.Line{{}, {}, {}, {Width: px + 1}}}},
		{Style: api.Style{Width: api.Size{Kind: 3}}},
		{Kind: api.KCell, Style: api.Style{RowSpan: 1001}},
		{Kind: api.KCol, Style: api.Style{ColSpan: 1001}},
		text(api.Node{Style: api.Style{Pad: [4]int64{0, 0, px + 1, 0}}}),
		text(api.Node{Kids: []int{1}}),
		text(api.Node{Kids: []int{-1}}),
		{Kind: api.KCol, Kids: []int{1}},
		{Kind: api.KCol, Kids: []int{1, 1}},
		text(api.Node{Words: make([]int64, 10001)}),
		text(api.Node{Words: append(make([]int64, 9999), px+1)}),
		text(api.Node{Words: []int64{-1, 5, 5}}),
	}
	for _, kind := range []int{math.MinInt, -1, 11, 1 << 32, math.MaxInt} {
		wrong = append(wrong, api.Node{Kind: kind}, api.Node{Kind: kind, Kids: []int{0}})
	}
	for _, n := range []int64{math.MinInt64, -1, px + 1, math.MaxInt64} {
		wrong = append(wrong, text(api.Node{Words: []int64{n}}), text(api.Node{Words: []int64{1, n, 1}}), text(api.Node{Blank: n}), text(api.Node{High: n}))
	}
	for kind := api.KBlock; kind <= api.KCell; kind++ {
		if kind == api.KText {
			continue
		}
		for _, n := range []int64{math.MinInt64, -1, 1, px, math.MaxInt64} {
			wrong = append(wrong, api.Node{Kind: kind, Words: []int64{n}}, api.Node{Kind: kind, Blank: n}, api.Node{Kind: kind, High: n})
		}
		wrong = append(wrong, api.Node{Kind: kind, Words: []int64{0}}, api.Node{Kind: kind, Words: make([]int64, 10001)})
	}
	for _, n := range wrong {
		for at := range 3 {
			l := page([]int{1}, []int{2}, nil, nil) // the last one is not reached
			l[at] = n
			wantFault(t, "one wrong node", l, at, api.ErrKind)
			l[3] = api.Node{Kind: 12}
			wantFault(t, "two wrong nodes", l, at, api.ErrKind)
		}
		wantFault(t, "a wrong node that is not reached", []api.Node{{}, n}, 1, api.ErrKind)
		wantFault(t, "a wrong node alone", []api.Node{n}, 0, api.ErrKind)
	}
}

// P4.1: what a valid node may be, at the edges.
func TestRightNodes(t *testing.T) {
	right := []api.Node{
		text(api.Node{}),
		text(api.Node{Words: []int64{}, Kids: []int{}}),
		text(api.Node{Words: []int64{0, px, 1}, Blank: px, High: px}),
		text(api.Node{Words: slices.Repeat([]int64{px}, 10000)}),
		text(api.Node{Words: make([]int64, 10000, 20000), Blank: 1}),
		{Kind: api.KCol, Kids: []int{}, Words: []int64{}},
		{Style: api.Style{ColSpan: -1000, RowSpan: -1000, Align: 3, Height: api.Size{Kind: api.SizeLen, N: -px}, Spacing: [2]int64{-px, px}}},
	}
	for kind := api.KBlock; kind <= api.KCell; kind++ {
		right = append(right, api.Node{Kind: kind}, api.Node{Kind: kind, Style: api.Style{RowSpan: 1000, Width: api.Size{Kind: api.SizeShare, N: 10000000}}})
		if kind != api.KText && kind != api.KCol {
			l := page([]int{1}, []int{2, 3}, nil, nil)
			l[0].Kind, l[1].Kind = kind, kind
			wantRight(t, "kinds with Kids", l)
		}
	}
	for _, n := range right {
		wantRight(t, "alone", []api.Node{n})
		l := page([]int{2, 1}, nil, nil)
		l[2] = n
		wantRight(t, "among others", l)
	}
}

// P4.1: a Kid is the index of a node, and not 0; the first node without such Kids is told, not the first wrong Kid on the way.
func TestLinks(t *testing.T) {
	for _, kid := range []int{0, 4, 5, -1, math.MinInt, math.MaxInt, 1 << 32} {
		for _, kids := range [][]int{{kid}, {kid, kid}, {1, 2, kid}, {kid, 3}, {2, kid, 2}} {
			for at := range 4 {
				l := page([]int{3, 2, 1}, nil, nil, nil)
				l[at].Kids = kids
				wantFault(t, "one wrong link", l, at, api.ErrLink)
				l[3].Kids = []int{1, 9}
				wantFault(t, "two wrong links", l, min(at, 3), api.ErrLink)
			}
		}
	}
	wantFault(t, "a link from where nothing leads to", page([]int{1}, nil, []int{0}), 2, api.ErrLink)
	wantFault(t, "a root in itself", page([]int{0}), 0, api.ErrLink)
	wantFault(t, "the only node, and 1", page([]int{1}), 0, api.ErrLink)
	wantFault(t, "65536 of 65536", append(fan(65535), api.Node{Kids: []int{65536}}), 65535, api.ErrLink)
}

// P4.1: every node but the root occurs once, and is reached; the first one of which one of both doesn't hold is told.
func TestCycles(t *testing.T) {
	for _, c := range []struct {
		name string
		l    []api.Node
		at   int
	}{
		{"twice in one node", page([]int{1, 1}, nil), 1},
		{"three times in one node", page([]int{2, 1, 2, 2}, nil, nil), 2},
		{"twice in one node, with others between", page([]int{3, 1, 2, 3}, nil, nil, nil), 3},
		{"in two nodes", page([]int{1, 2, 3}, []int{3}, nil, nil), 3},
		{"in two nodes, of which one is not reached", page([]int{2}, []int{2}, nil), 1},
		{"in its own Kids, and reached", page([]int{1}, []int{1}), 1},
		{"in its own Kids, and not reached", page([]int{1}, nil, []int{2}), 2},
		{"in the Kids of its Kid, and reached", page([]int{2}, nil, []int{3}, []int{2, 1}), 2},
		{"not at all", page(nil, nil), 1},
		{"not at all, the last", page([]int{2, 1}, nil, nil, nil), 3},
		{"two in a circle", page(nil, []int{2}, []int{1}), 1},
		{"three in a circle, after others", page([]int{2, 1}, nil, nil, []int{5}, []int{3}, []int{4}), 3},
		{"below a circle", page([]int{2}, nil, nil, []int{4, 1}, []int{3}), 1},
		{"below a node that is not a Kid", page([]int{1}, nil, nil, []int{2}), 2},
		{"not reached, before one that occurs twice", page([]int{3, 3}, []int{2}, []int{1}, nil), 1},
		{"not reached, after one that occurs twice", page([]int{1, 1}, nil, []int{3}, []int{2}), 1},
		{"no Kids, before one that occurs twice", page([]int{2, 2}, nil, nil), 1},
		{"two that occur twice", page([]int{3, 2}, nil, []int{3, 1}, []int{1}), 1},
		{"a circle at the end of 65536", append(fan(65534), page([]int{65535}, []int{65534})...), 65534},
		{"one without a parent at the end of 65536", append(fan(65535), api.Node{}), 65535},
	} {
		wantFault(t, c.name, c.l, c.at, api.ErrCycle)
	}
}

// P4.1: the ways down to the last node are more than can be gone one by one.
func TestManyWays(t *testing.T) {
	l := make([]api.Node, 65536)
	for i := range len(l) - 1 {
		l[i].Kids = []int{i + 1, i + 1}
	}
	wantFault(t, "each node twice in the one before", l, 1, api.ErrCycle)
	for i := range len(l) - 2 {
		l[i].Kids = []int{i + 1, i + 2}
	}
	l[len(l)-2].Kids = []int{1}
	wantFault(t, "a circle of ladders", l, 1, api.ErrCycle)
	for i := range l {
		l[i].Kids = slices.Repeat([]int{len(l) - 1}, 100)
	}
	wantFault(t, "all in one", l, 1, api.ErrCycle)
	wantFault(t, "one a million times", page(slices.Repeat([]int{2, 1}, 1000000), nil, nil), 1, api.ErrCycle)
}

// P4.1: the root has depth 1, and 64 is allowed; the first node below is told by its index, not by the way to it.
func TestDepths(t *testing.T) {
	for n := 1; n <= 64; n++ {
		wantRight(t, "a chain of up to 64", chain(n))
	}
	for _, n := range []int{65, 66, 100, 65536} {
		wantFault(t, "a chain of more", chain(n), 64, api.ErrDeep)
	}
	l := fan(100)
	for i := 1; i <= 64; i++ { // 99 is at depth 2, 37 at depth 64, and 35 at depth 66
		l[100-i].Kids = []int{99 - i}
	}
	l[0].Kids = append([]int{99}, l[0].Kids[:34]...)
	wantFault(t, "a chain upwards", l, 35, api.ErrDeep)
	l[37].Kids, l[0].Kids = nil, append(l[0].Kids, 36)
	wantRight(t, "a chain upwards, of 64", l)
	l = append(chain(64), page(nil, nil)...)
	l[63].Kids, l[0].Kids = []int{65}, []int{1, 64}
	wantFault(t, "the last one only", l, 65, api.ErrDeep)
	l[63].Kids, l[62].Kids = nil, []int{65, 63}
	wantRight(t, "the last one at 64", l)
}

// P4.1: of several faults, the one that is named first is told, wherever the others are.
func TestFirstFault(t *testing.T) {
	l := chain(70)
	l[69].Kind = api.KRow
	l[1].Kids = []int{2, 5}
	l[3].Kids = []int{4, 0}
	l[60] = api.Node{High: 1, Kids: []int{61}}
	wantFault(t, "all of them", l, 60, api.ErrKind)
	l[60].High = 0
	wantFault(t, "all but a wrong node", l, 3, api.ErrLink)
	l[3].Kids = []int{4}
	wantFault(t, "a node in two, and too deep", l, 5, api.ErrCycle)
	l[1].Kids = []int{2}
	wantFault(t, "too deep", l, 64, api.ErrDeep)
	l[0].Kids, l[9].Kids = []int{1, 10}, nil
	wantRight(t, "none", l)
	wantFault(t, "a chain that ends in a circle", append(chain(70)[:69], api.Node{Kids: []int{66}}), 66, api.ErrCycle)
}

// P4.2: the examples of the chapter, and others written out.
func TestOrderDepthsParents(t *testing.T) {
	for _, c := range []struct {
		l                      []api.Node
		order, depths, parents []int
	}{
		{page([]int{1, 2}, nil, []int{3}, nil), []int{0, 1, 2, 3}, []int{1, 2, 2, 3}, []int{-1, 0, 0, 2}},
		{page(nil), []int{0}, []int{1}, []int{-1}},
		{page([]int{2, 1}, nil, nil), []int{0, 2, 1}, []int{1, 2, 2}, []int{-1, 0, 0}},
		{page([]int{1, 2}, []int{3}, nil, nil), []int{0, 1, 3, 2}, []int{1, 2, 2, 3}, []int{-1, 0, 0, 1}},
		{page([]int{3}, nil, []int{1}, []int{2}), []int{0, 3, 2, 1}, []int{1, 4, 3, 2}, []int{-1, 2, 3, 0}},
		{
			page([]int{5, 2}, nil, []int{4, 1, 7}, nil, []int{6}, []int{3}, nil, nil),
			[]int{0, 5, 3, 2, 4, 6, 1, 7}, []int{1, 3, 2, 3, 3, 2, 4, 3}, []int{-1, 2, 0, 5, 2, 0, 4, 2},
		},
	} {
		if got, err := tree.Order(c.l); !slices.Equal(got, c.order) || err != api.OK {
			t.Errorf("Order(%v) = %v, %d, want %v", c.l, got, err, c.order)
		}
		if got, err := tree.Depths(c.l); !slices.Equal(got, c.depths) || err != api.OK {
			t.Errorf("Depths(%v) = %v, %d, want %v", c.l, got, err, c.depths)
		}
		if got, err := tree.Parents(c.l); !slices.Equal(got, c.parents) || err != api.OK {
			t.Errorf("Parents(%v) = %v, %d, want %v", c.l, got, err, c.parents)
		}
	}
}

// rich is a tree with something in every field.
func rich() []api.Node {
	l := page([]int{1, 3}, []int{2}, nil, nil)
	l[0].Style = api.Style{Pad: [4]int64{-1, 2, -3, 4}, Border: [4]api.Line{{Width: 5}, {Style: api.BSolid, Width: 6, Color: 7}}, RowSpan: -3, Fixed: true}
	l[1].Kind, l[1].Style = api.KTable, api.Style{Width: api.Size{N: 9}, Height: api.Size{Kind: api.SizeLen, N: -9}, Spacing: [2]int64{-1, 3}, Collapse: true}
	l[2].Kind, l[2].Style = api.KCol, api.Style{ColSpan: 4, RowSpan: 5, Hide: true}
	l[3] = api.Node{Kind: api.KText, Words: []int64{0, 9, 4}, Blank: 2, High: 8, Style: api.Style{Align: api.AlignMiddle, Below: true}}
	return l
}

// P4.2: the styles are computed, and nothing else differs.
func TestComputed(t *testing.T) {
	got, err := tree.Computed(rich())
	want := rich()
	for i := range want {
		want[i].Style, _ = style.Computed(want[i].Style)
	}
	if s := want[0].Style; s.RowSpan != 1 || s.ColSpan != 1 || s.Pad != [4]int64{0, 2, 0, 4} || s.Border[0].Width != 0 {
		t.Fatalf("the computed style is %v", s)
	}
	if !reflect.DeepEqual(copied(got), want) || err != api.OK {
		t.Errorf("Computed = %v, %d, want %v", got, err, want)
	}
	again, err := tree.Computed(got)
	if !reflect.DeepEqual(copied(again), want) || err != api.OK {
		t.Errorf("Computed of what is computed = %v, %d, want %v", again, err, want)
	}
}

// numbers are the same in every run, so that what fails once fails again.
type numbers uint64

func (r *numbers) below(n int) int {
	*r = *r*6364136223846793005 + 1442695040888963407
	return int(uint64(*r) >> 33 % uint64(n))
}

// shuffled numbers from 1 are as good as any for a tree: the parent of a node may come after it.
func (r *numbers) shuffled(n int) []int {
	at := make([]int, n)
	for i := range at {
		at[i] = i
	}
	for i := n - 1; i > 1; i-- {
		j := 1 + r.below(i)
		at[i], at[j] = at[j], at[i]
	}
	return at
}

// grown is a tree of n nodes, most of them below one of the last `near` before.
func (r *numbers) grown(n int, near int) []api.Node {
	l := make([]api.Node, n)
	at := r.shuffled(n)
	for i := 1; i < n; i++ {
		parent := at[i-1-r.below(min(i, near))]
		place := r.below(len(l[parent].Kids) + 1)
		l[parent].Kids = slices.Insert(l[parent].Kids, place, at[i])
	}
	return l
}

// stray changes a Kid, mostly to another index.
func (r *numbers) stray(l []api.Node) {
	n := &l[r.below(len(l))]
	kid := r.below(len(l)+8) - 4
	if r.below(4) > 0 {
		kid = r.below(len(l))
	}
	switch {
	case len(n.Kids) == 0 || r.below(4) == 0:
		n.Kids = append(n.Kids, kid)
	case r.below(3) == 0:
		n.Kids = slices.Delete(n.Kids, 0, 1)
	default:
		n.Kids[r.below(len(n.Kids))] = kid
	}
}

// reachedByWords adds what is a Kid of what is reached, until nothing is added.
func reachedByWords(l []api.Node) []bool {
	reached := make([]bool, len(l))
	reached[0] = true
	for more := true; more; {
		more = false
		for i, n := range l {
			for _, kid := range n.Kids {
				if reached[i] && !reached[kid] {
					reached[kid], more = true, true
				}
			}
		}
	}
	return reached
}

func timesByWords(l []api.Node, at int) int {
	times := 0
	for _, n := range l {
		for _, kid := range n.Kids {
			if kid == at {
				times++
			}
		}
	}
	return times
}

func parentByWords(l []api.Node, at int) int {
	return slices.IndexFunc(l, func(n api.Node) bool { return slices.Contains(n.Kids, at) })
}

func depthByWords(l []api.Node, at int) int {
	depth := 0
	for ; at >= 0; at = parentByWords(l, at) {
		depth++
	}
	return depth
}

func orderByWords(l []api.Node, at int) []int {
	order := []int{at}
	for _, kid := range l[at].Kids {
		order = append(order, orderByWords(l, kid)...)
	}
	return order
}

// faultByWords goes through P4.1 for a page of blocks.
func faultByWords(l []api.Node) (int, api.Errno) {
	for i, n := range l {
		for _, kid := range n.Kids {
			if kid <= 0 || kid >= len(l) {
				return i, api.ErrLink
			}
		}
	}
	reached := reachedByWords(l)
	for i := range l {
		if i > 0 && (timesByWords(l, i) != 1 || !reached[i]) {
			return i, api.ErrCycle
		}
	}
	for i := range l {
		if depthByWords(l, i) > 64 {
			return i, api.ErrDeep
		}
	}
	return 0, api.OK
}

// wantWords holds all that is told of a page against the chapter's words, and reports the fault.
func wantWords(t *testing.T, l []api.Node) api.Errno {
	t.Helper()
	at, err := faultByWords(l)
	if err != api.OK {
		wantFault(t, "a random page", l, at, err)
	} else {
		wantRight(t, "a random page", l)
		wantProperties(t, l)
	}
	if t.Failed() {
		t.Fatalf("the page is %v", l)
	}
	return err
}

// wantProperties holds a tree to P4.2 and P4.3.
func wantProperties(t *testing.T, l []api.Node) {
	t.Helper()
	order, errOrder := tree.Order(l)
	depths, errDepths := tree.Depths(l)
	parents, errParents := tree.Parents(l)
	if errOrder != api.OK || errDepths != api.OK || errParents != api.OK || len(order) != len(l) || len(depths) != len(l) || len(parents) != len(l) {
		t.Fatalf("%v: order %v, %d; depths %v, %d; parents %v, %d", l, order, errOrder, depths, errDepths, parents, errParents)
	}
	if want := orderByWords(l, 0); !slices.Equal(order, want) {
		t.Errorf("the order is %v, want %v", order, want)
	}
	for i := range l {
		if want := parentByWords(l, i); parents[i] != want {
			t.Errorf("the parent of %d is %d, want %d", i, parents[i], want)
		}
		if want := depthByWords(l, i); depths[i] != want {
			t.Errorf("the depth of %d is %d, want %d", i, depths[i], want)
		}
		if i > 0 && slices.Index(order, i) <= slices.Index(order, parents[i]) {
			t.Errorf("%d is before its parent %d in %v", i, parents[i], order)
		}
		for _, kid := range l[i].Kids {
			if depths[kid] != depths[i]+1 {
				t.Errorf("%d has depth %d, but its Kid %d has %d", i, depths[i], kid, depths[kid])
			}
		}
	}
	if once := slices.Compact(slices.Sorted(slices.Values(order))); len(once) != len(l) {
		t.Errorf("not every index is in %v", order)
	}
}

// P4.1 to P4.3: all pages of up to three blocks with up to two Kids each, these right or wrong.
func TestAllSmallPages(t *testing.T) {
	for n := 1; n <= 3; n++ {
		lists := [][]int{nil}
		for a := -1; a <= n; a++ {
			lists = append(lists, []int{a})
			for b := -1; b <= n; b++ {
				lists = append(lists, []int{a, b})
			}
		}
		all := 1
		for range n {
			all *= len(lists)
		}
		for i := range all {
			l := make([]api.Node, n)
			for at := range l {
				l[at].Kids = lists[i%len(lists)]
				i /= len(lists)
			}
			wantWords(t, l)
		}
	}
}

// P4.1 to P4.3: trees that have grown at random, broad and deep, whole and with Kids changed.
func TestRandomPages(t *testing.T) {
	r := numbers(4)
	faults := map[api.Errno]int{}
	for i := range 3000 {
		n, near := 1+r.below(12), 12
		if i%10 == 0 {
			n, near = 60+r.below(40), 1+r.below(2)
		}
		l := r.grown(n, near)
		for range max(0, r.below(6)-2) {
			r.stray(l)
		}
		faults[wantWords(t, l)]++
	}
	for _, err := range []api.Errno{api.OK, api.ErrLink, api.ErrCycle, api.ErrDeep} {
		if faults[err] < 30 {
			t.Errorf("error %d is the answer to %d pages only", err, faults[err])
		}
	}
}

// P4.3: of as many nodes as there may be, each is once in the order, after its parent.
func TestMostNodes(t *testing.T) {
	r := numbers(5)
	l := r.grown(65536, 60000)
	wantRight(t, "65536", l)
	order, _ := tree.Order(l)
	depths, _ := tree.Depths(l)
	parents, _ := tree.Parents(l)
	place := map[int]int{-1: -1}
	for i, at := range order {
		place[at] = i
	}
	if len(order) != len(l) || len(place) != len(l)+1 || len(depths) != len(l) || len(parents) != len(l) {
		t.Fatalf("%d in the order, %d of them differ, %d depths, %d parents", len(order), len(place)-1, len(depths), len(parents))
	}
	for at, parent := range parents {
		above := 0
		if at > 0 {
			above = depths[parent]
		}
		if place[parent] >= place[at] || depths[at] != above+1 || at > 0 && !slices.Contains(l[parent].Kids, at) {
			t.Fatalf("%d: parent %d, depth %d, at %d in the order", at, parent, depths[at], place[at])
		}
	}
}

// roomy is the tree with spare capacity in every list, and something in it.
func roomy(l []api.Node) []api.Node {
	room := append(make([]api.Node, 0, len(l)+2), l...)
	for i := range room {
		room[i].Kids = append(append([]int{}, l[i].Kids...), 77, 78)[:len(l[i].Kids)]
		room[i].Words = append(append([]int64{}, l[i].Words...), 79, 80)[:len(l[i].Words)]
	}
	copy(room[len(l):cap(room)], []api.Node{{High: 81}, {High: 82}})
	return room
}

// allOf is the page with its lists and what is in their spare capacity.
func allOf(l []api.Node) []api.Node {
	all := slices.Clone(l[:cap(l)])
	for i, n := range all {
		all[i].Kids = slices.Clone(n.Kids[:cap(n.Kids)])
		all[i].Words = slices.Clone(n.Words[:cap(n.Words)])
	}
	return all
}

// P4.2: a page that is asked is left as it is, and its spare capacity, too.
func TestPagesAreNotChanged(t *testing.T) {
	deep, twice := chain(70), page([]int{1, 1}, nil)
	for _, l := range [][]api.Node{rich(), deep, twice, page([]int{5}), {{Kind: 11}}} {
		l = roomy(l)
		before := allOf(l)
		tree.Check(l)
		tree.Order(l)
		tree.Depths(l)
		tree.Parents(l)
		tree.Computed(l)
		if !reflect.DeepEqual(allOf(l), before) {
			t.Errorf("%v became %v", before, allOf(l))
		}
	}
}

// fill writes to all that a list has, beyond its end, too.
func fill[N int | int64](l []N) {
	for i := range l[:cap(l)] {
		l[:cap(l)][i] = 99
	}
}

// P4.2: the nodes that come back share no memory with those that went in, nor with each other, even where those did.
func TestComputedIsNewMemory(t *testing.T) {
	words := make([]int64, 3, 10)
	kids := []int{1, 2, 3, 4}
	l := make([]api.Node, 5)
	l[0].Kids, l[1].Kids, l[2].Kids = kids[:2], kids[2:3], kids[3:] // all of one array
	l[3] = api.Node{Kind: api.KText, Words: words}
	l[4] = api.Node{Kind: api.KText, Words: words[:2]}
	before := copied(l)
	first, _ := tree.Computed(l)
	second, _ := tree.Computed(l)
	want := copied(second)
	for i := range first {
		fill(first[i].Kids)
		fill(first[i].Words)
		if i+1 < len(first) && !reflect.DeepEqual(copied(first[i+1:]), want[i+1:]) {
			t.Errorf("writing to the lists of %d, the nodes after it became %v", i, first[i+1:])
		}
		first[i] = api.Node{Kind: 9}
	}
	if !reflect.DeepEqual(copied(second), want) || !reflect.DeepEqual(copied(l), before) || len(slices.Compact(slices.Clone(words[:10]))) != 1 {
		t.Errorf("the page became %v, its nodes %v", l, second)
	}
	fill(kids)
	fill(words)
	if !reflect.DeepEqual(copied(second), want) {
		t.Errorf("the nodes became %v", second)
	}
}

// P4.2: what one call has answered isn't what the next one answers.
func TestAnswersAreNewMemory(t *testing.T) {
	l := rich()
	for _, ask := range []func([]api.Node) ([]int, api.Errno){tree.Order, tree.Depths, tree.Parents} {
		first, _ := ask(l)
		want := slices.Clone(first)
		fill(first)
		if second, err := ask(l); !slices.Equal(second, want) || err != api.OK {
			t.Errorf("%v, %d after %v", second, err, want)
		}
	}
}
