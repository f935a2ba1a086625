package fixed_test

import (
	"math"
	"math/big"
	"testing"

	"purfling/fixed"
)

const (
	top = math.MaxInt64
	low = math.MinInt64
)

// edges are lengths at which signs, words and bounds change.
var edges = []int64{
	low, low + 1, low / 2, -1 << 32, -10001, -10000, -7, -2, -1,
	0, 1, 2, 3, 7, 9999, 10000, 10001, 1<<31 - 1, 1 << 31, 1 << 32, 3037000499, 3037000500,
	1 << 50, 1 << 60, top / 10000, top/10000 + 1, top / 2, top/2 + 1, top - 1, top,
}

func saturated(n *big.Int) int64 {
	switch {
	case n.Cmp(big.NewInt(top)) > 0:
		return top
	case n.Cmp(big.NewInt(low)) < 0:
		return low
	}
	return n.Int64()
}

// P1.1: sums start with 0, and are saturated one by one.
func TestAddSaturatesEachSum(t *testing.T) {
	for _, c := range []struct {
		l    []int64
		want int64
	}{
		{nil, 0},
		{[]int64{}, 0},
		{[]int64{5}, 5},
		{[]int64{low}, low},
		{[]int64{1, 2, 3, -10}, -4},
		{[]int64{top, 0}, top},
		{[]int64{top, 1}, top},
		{[]int64{top - 1, 1}, top},
		{[]int64{1, top}, top},
		{[]int64{low, -1}, low},
		{[]int64{low + 1, -1}, low},
		{[]int64{-1, low}, low},
		{[]int64{top, low}, -1},
		{[]int64{low, top}, -1},
		{[]int64{low, low}, low},
		{[]int64{1 << 62, 1 << 62, -1}, top - 1},
		{[]int64{top, top, -top}, 0},
		{[]int64{top, -top, top}, top},
		{[]int64{low, low, top, 1}, 0},
		{[]int64{top, 1, 1, -3}, top - 3},
	} {
		if got := fixed.Add(c.l...); got != c.want {
			t.Errorf("Add(%d) = %d, want %d", c.l, got, c.want)
		}
	}
}

// P1.1: sums of two, differences and products are the exact ones, saturated.
func TestTwoLengthsAreExactOrSaturated(t *testing.T) {
	for _, a := range edges {
		for _, b := range edges {
			x, y := big.NewInt(a), big.NewInt(b)
			if got, want := fixed.Add(a, b), saturated(new(big.Int).Add(x, y)); got != want {
				t.Errorf("Add(%d, %d) = %d, want %d", a, b, got, want)
			}
			if got, want := fixed.Sub(a, b), saturated(new(big.Int).Sub(x, y)); got != want {
				t.Errorf("Sub(%d, %d) = %d, want %d", a, b, got, want)
			}
			if got, want := fixed.Mul(a, b), saturated(new(big.Int).Mul(x, y)); got != want {
				t.Errorf("Mul(%d, %d) = %d, want %d", a, b, got, want)
			}
		}
	}
}

// P1.1: differences and products, written out.
func TestSubAndMul(t *testing.T) {
	for _, c := range []struct {
		name      string
		got, want int64
	}{
		{"5 - 7", fixed.Sub(5, 7), -2},
		{"0 - low", fixed.Sub(0, low), top},
		{"-1 - low", fixed.Sub(-1, low), top},
		{"low - low", fixed.Sub(low, low), 0},
		{"low - 1", fixed.Sub(low, 1), low},
		{"top - -1", fixed.Sub(top, -1), top},
		{"0 - top", fixed.Sub(0, top), -top},
		{"-3 * 7", fixed.Mul(-3, 7), -21},
		{"-3 * -7", fixed.Mul(-3, -7), 21},
		{"0 * low", fixed.Mul(0, low), 0},
		{"low * 1", fixed.Mul(low, 1), low},
		{"low * -1", fixed.Mul(low, -1), top},
		{"low * low", fixed.Mul(low, low), top},
		{"low * top", fixed.Mul(low, top), low},
		{"2^31 * 2^32", fixed.Mul(1<<31, 1<<32), top},
		{"-2^31 * 2^32", fixed.Mul(-1<<31, 1<<32), low},
	} {
		if c.got != c.want {
			t.Errorf("%s = %d, want %d", c.name, c.got, c.want)
		}
	}
}

// P1.1: a part is the exact one, rounded down and saturated, and 0 if the share or the length is negative.
func TestPart(t *testing.T) {
	for _, c := range []struct{ share, of, want int64 }{
		{3333, 100, 33},
		{10000, 100, 100},
		{20000, 100, 200},
		{9999, 1, 0},
		{1, 9999, 0},
		{1, 10000, 1},
		{1, 19999, 1},
		{0, top, 0},
		{10000, top, top},
		{9999, top, 9222449699651090329},
		{10001, top, top},
		{top, 10000, top},
		{top, top, top},
		{20000, 1 << 62, top},
		{39999, 1 << 62, top},
		{40000, 1 << 62, top},
		{40001, 1 << 62, top},
		{-1, 5, 0},
		{5, -1, 0},
		{-10000, -10000, 0},
		{low, low, 0},
		{low, top, 0},
		{top, low, 0},
	} {
		if got := fixed.Part(c.share, c.of); got != c.want {
			t.Errorf("Part(%d, %d) = %d, want %d", c.share, c.of, got, c.want)
		}
	}
	for _, share := range edges {
		for _, of := range edges {
			want := int64(0)
			if share >= 0 && of >= 0 {
				n := new(big.Int).Mul(big.NewInt(share), big.NewInt(of))
				want = saturated(n.Div(n, big.NewInt(10000)))
			}
			if got := fixed.Part(share, of); got != want {
				t.Errorf("Part(%d, %d) = %d, want %d", share, of, got, want)
			}
		}
	}
}

// P1.1: the greatest bound holds first, then the least one.
func TestClamp(t *testing.T) {
	for _, c := range []struct{ n, least, most, want int64 }{
		{5, 1, 9, 5},
		{0, 1, 9, 1},
		{10, 1, 9, 9},
		{1, 1, 9, 1},
		{9, 1, 9, 9},
		{5, 7, 6, 7},
		{9, 7, 6, 7},
		{6, 7, 6, 7},
		{9, 1, 6, 6},
		{low, low, top, low},
		{top, low, top, top},
		{0, top, low, top},
		{0, -5, -3, -3},
	} {
		if got := fixed.Clamp(c.n, c.least, c.most); got != c.want {
			t.Errorf("Clamp(%d, %d, %d) = %d, want %d", c.n, c.least, c.most, got, c.want)
		}
	}
}
