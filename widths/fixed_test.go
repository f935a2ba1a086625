package widths_test

import (
	"math"
	"math/big"
	"slices"
	"testing"

	"purfling/api"
	"purfling/widths"
)

func length(n int64) api.Size { return api.Size{Kind: api.SizeLen, N: n} }

func part(n int64) api.Size { return api.Size{Kind: api.SizeShare, N: n} }

func sizes(l ...api.Size) []api.Size { return l }

// auto has so many automatic sizes.
func auto(many int) []api.Size { return make([]api.Size, many) }

// size is valid.
func (n *numbers) size() api.Size {
	switch n.below(3) {
	case 0:
		return length(n.of(0, 1, int64(n.below(100)), int64(n.below(100)), px))
	case 1:
		return part(n.of(0, 1, int64(n.below(5000)), int64(n.below(10000)), share))
	}
	return api.Size{}
}

func (n *numbers) sizes(many int) []api.Size {
	l := auto(many)
	for i := range l {
		l[i] = n.size()
	}
	return l
}

// evenByWords hands out one by one.
func evenByWords(n int64, many int) []int64 {
	l := make([]int64, many)
	for i := range l {
		l[i] = n / int64(many)
	}
	for i := range n % int64(many) {
		l[i]++
	}
	return l
}

// fixedByWords goes through the words of the chapter one by one.
func fixedByWords(l []api.Size, sum int64) []int64 {
	all := make([]int64, len(l))
	var cols []int
	for col, size := range l {
		switch size.Kind {
		case api.SizeAuto:
			cols = append(cols, col)
		case api.SizeLen:
			all[col] = size.N
		case api.SizeShare:
			all[col] = partByWords(size.N, sum)
		}
	}
	left := new(big.Int).Sub(big.NewInt(sum), bigSum(all...))
	if left.Sign() < 0 {
		return all
	}
	if len(cols) == 0 {
		for col := range l {
			cols = append(cols, col)
		}
	}
	for i, s := range evenByWords(left.Int64(), len(cols)) {
		all[cols[i]] += s
	}
	return all
}

func wantFixed(t *testing.T, l []api.Size, sum int64, want []int64) {
	t.Helper()
	if got, err := widths.Fixed(l, sum); err != api.OK || !slices.Equal(got, want) {
		t.Errorf("Fixed(%v, %d) = %d, error %d, want %d", few(l), sum, few(got), err, few(want))
	}
}

// P15.3: fixed widths add up to at least the total, and where they are more, none is other than it asks for.
func holdFixed(t *testing.T, name string, l []api.Size, sum int64, right bool) {
	t.Helper()
	got, err := widths.Fixed(l, sum)
	if !right {
		if err != api.ErrWidth || len(got) != 0 {
			t.Errorf("%s: Fixed(%v, %d) = %d, error %d, want %d", name, few(l), sum, few(got), err, api.ErrWidth)
		}
		return
	}
	if err != api.OK || len(got) != len(l) {
		t.Fatalf("%s: Fixed(%v, %d) = %d, error %d", name, few(l), sum, few(got), err)
	}
	more := bigSum(got...).Cmp(big.NewInt(sum))
	if more < 0 {
		t.Errorf("%s: Fixed(%v, %d) = %d, which adds up to %d", name, few(l), sum, few(got), bigSum(got...))
	}
	for col, size := range l {
		if more > 0 && (size.Kind == api.SizeAuto && got[col] != 0 || size.Kind == api.SizeLen && got[col] != size.N) {
			t.Errorf("%s: Fixed(%v, %d): column %d is %d", name, few(l), sum, col, got[col])
		}
	}
}

// P15.2: fixed widths, written out; the first ones are the chapter's example.
func TestFixed(t *testing.T) {
	var none api.Size
	for _, c := range []struct {
		l    []api.Size
		sum  int64
		want []int64
	}{
		{sizes(length(30), none, none), 100, list(30, 35, 35)},

		{sizes(length(30), none, none), 101, list(30, 36, 35)},
		{sizes(none, length(30), none), 101, list(36, 30, 35)},
		{sizes(none, none, length(30)), 101, list(36, 35, 30)},
		{sizes(length(30), none, none), 31, list(30, 1, 0)},
		{sizes(length(30), none, none), 30, list(30, 0, 0)},
		{sizes(length(30), none, none), 29, list(30, 0, 0)},
		{sizes(length(30), none, none), 0, list(30, 0, 0)},
		{sizes(length(30), none, part(2000), none), 101, list(30, 26, 20, 25)},
		{sizes(none, none, none), 11, list(4, 4, 3)},
		{sizes(none, none, none), 0, list(0, 0, 0)},
		{sizes(none), 7, list(7)},
		{sizes(none), 0, list(0)},

		// None is automatic: for all, in addition.
		{sizes(length(30), part(2000)), 100, list(55, 45)},
		{sizes(length(30), part(2000)), 101, list(56, 45)},
		{sizes(length(30), length(20), length(0)), 61, list(34, 24, 3)},
		{sizes(length(30), length(20)), 51, list(31, 20)},
		{sizes(length(30), length(20)), 50, list(30, 20)},
		{sizes(length(30), length(20)), 49, list(30, 20)},
		{sizes(length(30), length(20)), 0, list(30, 20)},
		{sizes(length(0)), 7, list(7)},
		{sizes(part(0)), 7, list(7)},
		{sizes(length(0), length(0)), 7, list(4, 3)},
		{sizes(part(0), part(0)), 7, list(4, 3)},
		{sizes(part(10000)), 7, list(7)},

		// A size of 0 is none that is automatic.
		{sizes(length(0), none), 7, list(0, 7)},
		{sizes(part(0), none), 7, list(0, 7)},
		{sizes(none, length(0), part(0)), 7, list(7, 0, 0)},

		// Shares are of the total, not of what lengths leave; they may be more than all.
		{sizes(part(3333), none), 100, list(33, 67)},
		{sizes(part(3333), none), 99, list(32, 67)},
		{sizes(length(50), part(5000), none), 100, list(50, 50, 0)},
		{sizes(length(51), part(5000), none), 100, list(51, 50, 0)},
		{sizes(length(130), none), 100, list(130, 0)},
		{sizes(part(20000), none), 100, list(200, 0)},
		{sizes(part(6000), part(6000)), 100, list(60, 60)},
		{sizes(part(share), none), 100, list(100000, 0)},
		{sizes(length(px), none), 100, list(px, 0)},
		{sizes(length(px), length(px), none), 2*px + 5, list(px, px, 5)},

		{sizes(none, none), total, list(total/2, total/2)},
		{sizes(none, none), total - 1, list(total/2, total/2-1)},
		{sizes(length(px), none), total, list(px, total-px)},
		{sizes(part(10000), none), total, list(total, 0)},
		{sizes(part(5000), none), total, list(total/2, total/2)},
		{sizes(part(159999), none), total, list(9223314390779545465, 0)},
		{sizes(part(160000), none), total, list(math.MaxInt64, 0)},
		{sizes(part(share), none, length(3)), total, list(math.MaxInt64, 0, 3)},
		{sizes(part(share), part(share), none), total, list(math.MaxInt64, math.MaxInt64, 0)},
		{sizes(part(80000), part(80000), none), total, list(8*total, 8*total, 0)},
		{sizes(part(share), part(share)), total, list(math.MaxInt64, math.MaxInt64)},
	} {
		wantFixed(t, c.l, c.sum, c.want)
		wantFixed(t, c.l, c.sum, fixedByWords(c.l, c.sum))
	}
}

// P15.2: totals from 0 to 2^59.
func TestFixedBounds(t *testing.T) {
	for _, sum := range list(math.MinInt64, -total, -2, -1, 0, 1, 2, px, wide, total-1, total, total+1, total+2, 2*total, math.MaxInt64-1, math.MaxInt64) {
		right := sum >= 0 && sum <= total
		holdFixed(t, "automatic", auto(3), sum, right)
		holdFixed(t, "a length", sizes(length(px)), sum, right)
		holdFixed(t, "a share", sizes(part(share), part(7)), sum, right)
		holdFixed(t, "all", sizes(part(77), length(3), api.Size{}), sum, right)
		holdFixed(t, "as many as there may be", auto(10000), sum, right)
		holdFixed(t, "no sizes", nil, sum, false)
		holdFixed(t, "no sizes", sizes(), sum, false)
	}
}

// wrongSizes are not computed.
func wrongSizes() []api.Size {
	return sizes(
		api.Size{Kind: -1}, api.Size{Kind: 3}, api.Size{Kind: math.MinInt}, api.Size{Kind: math.MaxInt}, api.Size{Kind: 3, N: 7},
		api.Size{N: 1}, api.Size{N: -1}, api.Size{N: math.MaxInt64}, api.Size{N: math.MinInt64},
		length(-1), length(px+1), length(math.MaxInt64), length(math.MinInt64),
		part(-1), part(share+1), part(math.MaxInt64), part(math.MinInt64))
}

// rightSizes are computed, and at the bounds.
func rightSizes() []api.Size {
	return sizes(api.Size{}, length(0), length(1), length(share+1), length(px), part(0), part(1), part(share))
}

// P15.2: sizes have to be valid, wherever they stand, and there are 1 to 10000.
func TestFixedWrongSizes(t *testing.T) {
	for at := range 4 {
		for _, sum := range list(0, 70, total) {
			for _, wrong := range wrongSizes() {
				holdFixed(t, "a wrong size alone", sizes(wrong), sum, false)
				holdFixed(t, "a wrong size", slices.Insert(sizes(length(3), api.Size{}, part(40)), at, wrong), sum, false)
			}
			for _, right := range rightSizes() {
				holdFixed(t, "a size alone", sizes(right), sum, true)
				holdFixed(t, "a size", slices.Insert(sizes(length(3), api.Size{}, part(40)), at, right), sum, true)
			}
		}
	}
	for _, many := range []int{1, 2, 9999, 10000, 10001, 10002, 65537} {
		for _, size := range rightSizes() {
			holdFixed(t, "sizes", slices.Repeat(sizes(size), many), 70000, many <= 10000)
		}
	}
	l := auto(10000)
	for _, at := range []int{0, 1, 5000, 9999} {
		l[at].N = 6
		holdFixed(t, "a wrong size of many", l, 70, false)
		l[at].N = 0
	}
}

// P15.2, P15.3: random sizes and totals, against the chapter's words in numbers without bounds.
func TestFixedRandom(t *testing.T) {
	var n numbers = 154
	exact := 0
	for range 20000 {
		l := n.sizes(1 + n.below(7))
		sum := n.of(int64(n.below(100)), int64(n.below(400)), int64(n.below(1000)), px+int64(n.below(1000)), 3*px, total-1, total)
		want := fixedByWords(l, sum)
		wantFixed(t, l, sum, want)
		holdFixed(t, "random", l, sum, true)
		if t.Failed() {
			return
		}
		if bigSum(want...).Cmp(big.NewInt(sum)) == 0 {
			exact++
		}
	}
	if exact < 5000 || exact > 18000 {
		t.Errorf("%d of 20000 added up to the total", exact)
	}
}

// P15.2, P15.3: as many columns as there may be.
func TestFixedMany(t *testing.T) {
	var n numbers = 155
	for range 3 {
		l := n.sizes(10000)
		for _, sum := range list(0, 70000, wide, total) {
			wantFixed(t, l, sum, fixedByWords(l, sum))
			holdFixed(t, "many", l, sum, true)
		}
	}
	wantFixed(t, auto(10000), 70000, slices.Repeat(list(7), 10000))
	wantFixed(t, slices.Repeat(sizes(length(7)), 10000), 70001, append(list(8), slices.Repeat(list(7), 9999)...))
	wantFixed(t, slices.Repeat(sizes(part(1)), 10000), 70000, slices.Repeat(list(7), 10000))
	wantFixed(t, slices.Repeat(sizes(part(share)), 10000), total, slices.Repeat(list(math.MaxInt64), 10000))
	wantFixed(t, slices.Repeat(sizes(length(px)), 10000), 70000, slices.Repeat(list(px), 10000))
}
