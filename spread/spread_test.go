package spread_test

import (
	"math"
	"math/big"
	"slices"
	"testing"

	"purfling/api"
	"purfling/fixed"
	"purfling/spread"
)

const (
	px    = 1073741824
	share = 10000000
	wide  = 1125899906842623
)

func list(l ...int64) []int64 { return l }

// ofLengths are beyond the bounds of lengths, at them, and within.
func ofLengths() []int64 {
	return list(math.MinInt64, math.MinInt64+1, -wide, -2, -1, 0, 1, px, wide-1, wide, wide+1, wide+2, math.MaxInt64-1, math.MaxInt64)
}

func isLength(n int64) bool { return n >= 0 && n <= wide }

// numbers answers the same numbers below a bound on every run, so that a test that fails fails again.
type numbers uint64

func (n *numbers) below(bound int) int {
	*n = *n*6364136223846793005 + 1442695040888963407
	return int(uint64(*n)>>33) % bound
}

func (n *numbers) of(l ...int64) int64 { return l[n.below(len(l))] }

// length is mostly small, so that sums come close to what is distributed over them.
func (n *numbers) length() int64 {
	if n.below(12) == 0 {
		return n.of(px, wide/3, wide/2, wide-1, wide)
	}
	return n.of(0, 1, int64(n.below(10)), int64(n.below(100)), int64(n.below(100)))
}

func (n *numbers) lengths(many int) []int64 {
	l := make([]int64, many)
	for i := range l {
		l[i] = n.length()
	}
	return l
}

// shareByWords divides in numbers without bounds, and hands out what remains one by one.
func shareByWords(total *big.Int, weights []int64) []*big.Int {
	counted := slices.Clone(weights)
	if !slices.ContainsFunc(counted, func(w int64) bool { return w != 0 }) {
		for i := range counted {
			counted[i] = 1
		}
	}
	sum := new(big.Int)
	for _, w := range counted {
		sum.Add(sum, big.NewInt(w))
	}
	left := new(big.Int).Set(total)
	var shares, rests []*big.Int
	for _, w := range counted {
		product := new(big.Int).Mul(total, big.NewInt(w))
		quotient, rest := new(big.Int).DivMod(product, sum, new(big.Int))
		shares, rests = append(shares, quotient), append(rests, rest)
		left.Sub(left, quotient)
	}
	for ; left.Sign() > 0; left.Sub(left, big.NewInt(1)) {
		next := 0
		for i := range rests {
			if rests[i].Cmp(rests[next]) > 0 {
				next = i
			}
		}
		shares[next].Add(shares[next], big.NewInt(1))
		rests[next].SetInt64(-1)
	}
	return shares
}

func overByWords(n int64, l []int64, weights []int64) []int64 {
	excess := big.NewInt(n)
	for _, number := range l {
		excess.Sub(excess, big.NewInt(number))
	}
	if excess.Sign() < 0 {
		excess.SetInt64(0)
	}
	var all []int64
	for i, s := range shareByWords(excess, weights) {
		all = append(all, l[i]+s.Int64())
	}
	return all
}

func wantOver(t *testing.T, n int64, l []int64, weights []int64, want []int64) {
	t.Helper()
	if got, err := spread.Over(n, l, weights); err != api.OK || !slices.Equal(got, want) {
		t.Errorf("Over(%d, %d, %d) = %d, error %d, want %d", n, few(l), few(weights), few(got), err, few(want))
	}
}

// few cuts what is too long to be told.
func few[T any](l []T) []T { return l[:min(len(l), 12)] }

func holdOver(t *testing.T, name string, n int64, l []int64, weights []int64, right bool) {
	t.Helper()
	got, err := spread.Over(n, l, weights)
	if right && (err != api.OK || len(got) != len(l)) {
		t.Errorf("%s: Over(%d, %d, %d) = %d, error %d", name, n, few(l), few(weights), few(got), err)
	}
	if !right && (err != api.ErrWidth || len(got) != 0) {
		t.Errorf("%s: Over(%d, %d, %d) = %d, error %d, want %d", name, n, few(l), few(weights), few(got), err, api.ErrWidth)
	}
}

// P14.1: lengths over numbers, written out; the first one is the chapter's example.
func TestOver(t *testing.T) {
	for _, c := range []struct {
		n                int64
		l, weights, want []int64
	}{
		{10, list(2, 3), list(1, 4), list(3, 7)},

		{0, list(2, 3), list(1, 4), list(2, 3)},
		{4, list(2, 3), list(1, 4), list(2, 3)},
		{5, list(2, 3), list(1, 4), list(2, 3)},
		{6, list(2, 3), list(1, 4), list(2, 4)},
		{7, list(2, 3), list(1, 4), list(2, 5)},
		{8, list(2, 3), list(1, 4), list(3, 5)},
		{15, list(2, 3), list(4, 1), list(10, 5)},
		{10, list(3, 2), list(1, 4), list(4, 6)},

		{8, list(2, 3), list(1, 1), list(4, 4)},
		{8, list(2, 3), list(wide, wide), list(4, 4)},
		{8, list(2, 3), list(0, 0), list(4, 4)},
		{4, list(2, 3), list(0, 0), list(2, 3)},
		{10, list(0, 0, 0), list(1, 1, 1), list(4, 3, 3)},
		{10, list(0, 0, 0), list(0, 0, 0), list(4, 3, 3)},
		{12, list(1, 0, 0), list(0, 0, 0), list(5, 4, 3)},
		{7, list(1, 1, 1, 1), list(5, 5, 5, 5), list(2, 2, 2, 1)},
		{10, list(1, 2, 3), list(0, 5, 0), list(1, 6, 3)},
		{10, list(1, 2, 3), list(0, 0, 1), list(1, 2, 7)},
		{11, list(1, 2, 3), list(0, 1, 1), list(1, 5, 5)},
		{16, list(3, 1, 2), list(3, 1, 2), list(8, 3, 5)},

		{0, list(0), list(0), list(0)},
		{7, list(0), list(0), list(7)},
		{7, list(5), list(0), list(7)},
		{7, list(9), list(3), list(9)},
		{wide, list(0), list(0), list(wide)},
		{wide, list(0), list(wide), list(wide)},
		{wide, list(wide - 1), list(1), list(wide)},
		{wide, list(wide), list(wide), list(wide)},
		{0, list(wide), list(0), list(wide)},
		{wide, list(wide, wide), list(1, 1), list(wide, wide)},
		{wide, list(0, 0), list(wide, wide), list(1<<49, 1<<49-1)},
		{wide, list(1, 0), list(wide, 1), list(wide-1, 1)},
		{wide, list(0, wide-1), list(1, 0), list(1, wide-1)},
		{wide, list(0, wide, 0), list(1, 0, 1), list(0, wide, 0)},
	} {
		wantOver(t, c.n, c.l, c.weights, c.want)
	}
}

// P14.1: 10000 elements, whose sum may be beyond what a length holds.
func TestOverMany(t *testing.T) {
	for _, many := range []int{8191, 8192, 8193, 9999, 10000} {
		widest := slices.Repeat(list(wide), many)
		for _, n := range list(0, 1, wide) {
			wantOver(t, n, widest, widest, widest)
		}
		none := make([]int64, many)
		wantOver(t, int64(many), none, none, slices.Repeat(list(1), many))
		wantOver(t, 3*int64(many), slices.Repeat(list(1), many), widest, slices.Repeat(list(3), many))
		last := make([]int64, many)
		last[many-1] = 1
		want := make([]int64, many)
		want[many-1] = wide
		wantOver(t, wide, none, last, want)
	}
}

// P14.1: the length, each element and each weight have their bounds, wherever they stand.
func TestOverBounds(t *testing.T) {
	for _, n := range ofLengths() {
		right := isLength(n)
		holdOver(t, "length", n, list(2, 3), list(1, 4), right)
		holdOver(t, "length over one", n, list(0), list(0), right)
		for at := range 3 {
			l := list(5, 6, 7)
			l[at] = n
			for _, other := range list(0, 30, wide) {
				holdOver(t, "element", other, l, list(1, 1, 1), right)
				holdOver(t, "weight", other, list(1, 1, 1), l, right)
				holdOver(t, "element and weight", other, l, l, right)
			}
		}
		for _, m := range ofLengths() {
			holdOver(t, "two elements", 9, list(n, m), list(1, 1), right && isLength(m))
			holdOver(t, "two weights", 9, list(1, 1), list(n, m), right && isLength(m))
			holdOver(t, "length and element", n, list(1, m), list(1, 1), right && isLength(m))
			holdOver(t, "element and its weight", 9, list(1, n), list(1, m), right && isLength(m))
			holdOver(t, "length and weight", n, list(1, 1), list(m, 1), right && isLength(m))
		}
	}
	l := make([]int64, 10000)
	for _, at := range []int{0, 1, 5000, 9998, 9999} {
		for _, n := range list(-1, wide+1) {
			l[at] = n
			holdOver(t, "element of many", 9, l, make([]int64, 10000), false)
			holdOver(t, "weight of many", 9, make([]int64, 10000), l, false)
			l[at] = 0
		}
	}
}

// P14.1: there are 1 to 10000 elements, and as many weights.
func TestOverCounts(t *testing.T) {
	counts := []int{0, 1, 2, 3, 100, 9999, 10000, 10001, 10002, 20000, 65537}
	for _, many := range counts {
		for _, weights := range counts {
			right := many == weights && many >= 1 && many <= 10000
			holdOver(t, "zeros", 0, make([]int64, many), make([]int64, weights), right)
			holdOver(t, "ones", 70000, slices.Repeat(list(1), many), slices.Repeat(list(1), weights), right)
		}
	}
	holdOver(t, "nothing", 5, nil, nil, false)
	holdOver(t, "no weights", 5, list(1), nil, false)
	holdOver(t, "no elements", 5, nil, list(1), false)
	holdOver(t, "empty", 0, list(), list(), false)
}

// P14.1: random elements and weights, against the chapter's words in numbers without bounds.
func TestOverRandom(t *testing.T) {
	var n numbers = 141
	excesses := 0
	for range 20000 {
		l := n.lengths(1 + n.below(7))
		weights := n.lengths(len(l))
		length := n.length()
		if n.below(2) == 0 {
			length = min(fixed.Add(append(slices.Clone(l), n.length(), -n.length())...), wide)
		}
		length = max(0, length)
		want := overByWords(length, l, weights)
		wantOver(t, length, l, weights, want)
		if !slices.Equal(want, l) {
			excesses++
			if sum := fixed.Add(want...); sum != length {
				t.Errorf("over %d, %d: sum %d", length, l, sum)
			}
		}
		if t.Failed() {
			return
		}
	}
	if excesses < 5000 {
		t.Errorf("only %d of 20000 had an excess", excesses)
	}
}

// P14.1: columns' parts, written out; the first one is the chapter's example.
func TestPart(t *testing.T) {
	const top, low = math.MaxInt64, math.MinInt64
	for _, c := range []struct {
		n, gap int64
		cols   int
		want   int64
	}{
		{10, 3, 3, 4},

		{10, 3, 4, 1},
		{10, 3, 5, 0},
		{9, 3, 4, 0},
		{5, 3, 3, 0},
		{10, 3, 2, 7},
		{10, 3, 1, 10},
		{10, 0, 1000, 10},
		{10, 10, 2, 0},
		{10, 11, 2, 0},
		{0, 0, 1, 0},
		{0, 0, 5, 0},
		{0, 1, 1, 0},
		{0, 1, 2, 0},
		{wide, px, 100, wide - 99*px},
		{wide, px, 1, wide},

		{5, 3, 0, 5},
		{5, 3, -1, 5},
		{5, top, 0, 5},
		{5, low, math.MinInt, 5},
		{-5, 3, 0, -5},
		{-5, 3, -7, -5},
		{-5, -3, math.MinInt, -5},
		{low, top, 0, low},
		{top, low, 0, top},
		{top, low, math.MinInt, top},

		{-5, 3, 1, 0},
		{-5, 0, 1, 0},
		{-5, 3, 2, 0},
		{-5, -3, 2, 0},
		{-5, -3, 3, 1},
		{5, -3, 3, 11},
		{5, -3, 1, 5},
		{low, 0, 1, 0},
		{top, 0, 1, top},
		{top, top, 1, top},
		{top, top, 2, 0},
		{top, 1, math.MaxInt, 1},
		{top, -1, 2, top},
		{top, low, 2, top},
		{-1, low, 2, top},
		{-2, low, 2, top - 1},
		{low, low, 2, 0},
		{low + 1, low, 2, 1},
		{low, low, math.MaxInt, 0},
		{-10, low, 3, top - 9},
		{-10, 1 << 62, 5, 0},
		{-10, -1 << 62, 5, top - 9},
		{10, 1 << 62, 5, 0},
		{10, 1 << 32, 1<<32 + 1, 0},
		{10, 1 << 33, 1<<31 + 1, 0},
		{10, 2, 1<<62 + 1, 0},
		{10, 4, 1<<62 + 1, 0},
		{10, top, math.MaxInt, 0},
		{-10, low, math.MaxInt, top - 9},
		{10, low, math.MaxInt, top},
		{low, top, math.MaxInt, 0},
		{top, math.MaxInt32, 1 << 32, top - math.MaxInt32*(1<<32-1)},
	} {
		if got := spread.Part(c.n, c.gap, c.cols); got != c.want {
			t.Errorf("Part(%d, %d, %d) = %d, want %d", c.n, c.gap, c.cols, got, c.want)
		}
	}
}

// P14.1: parts in numbers without bounds, brought to the bounds at each step.
func TestPartByWords(t *testing.T) {
	bound := func(n *big.Int) *big.Int {
		least, most := big.NewInt(math.MinInt64), big.NewInt(math.MaxInt64)
		if n.Cmp(least) < 0 {
			return least
		}
		if n.Cmp(most) > 0 {
			return most
		}
		return n
	}
	l := append(ofLengths(), -3, 3, 10, -1<<62, 1<<62, 1<<31, -1<<31, 1<<32+1)
	for _, n := range l {
		for _, gap := range l {
			for _, cols := range l {
				want := n
				if cols >= 1 {
					gaps := bound(new(big.Int).Mul(big.NewInt(gap), big.NewInt(cols-1)))
					want = max(0, bound(gaps.Sub(big.NewInt(n), gaps)).Int64())
				}
				if got := spread.Part(n, gap, int(cols)); got != want {
					t.Errorf("Part(%d, %d, %d) = %d, want %d", n, gap, cols, got, want)
				}
			}
		}
	}
}

// P14.1: what is given to Over is not written to, in its spare capacity neither, and an answer shares memory with nothing.
func TestOverMemory(t *testing.T) {
	for _, n := range list(1, 40) {
		wholeNumbers, wholeWeights := list(2, 3, 4, -8, -9), list(1, 4, 2, -7, -6)
		l, weights := wholeNumbers[:3], wholeWeights[:3]
		first, _ := spread.Over(n, l, weights)
		want := slices.Clone(first)
		second, _ := spread.Over(n, l, weights)
		whole := first[:cap(first)]
		for i := range whole {
			whole[i] = -99
		}
		if !slices.Equal(wholeNumbers, list(2, 3, 4, -8, -9)) || !slices.Equal(wholeWeights, list(1, 4, 2, -7, -6)) {
			t.Error("numbers or weights were written to")
		}
		if !slices.Equal(second, want) {
			t.Error("two answers share memory")
		}
		wantOver(t, n, l, l, overByWords(n, l, l))
		wantOver(t, n, l, weights, want)
	}
}
