package fixed_test

import (
	"math/big"
	"slices"
	"testing"

	"purfling/api"
	"purfling/fixed"
)

const (
	mostTotal  = 1<<60 - 1
	mostWeight = 1<<50 - 1
	mostCount  = 10000
)

// numbers answers the same numbers below a bound on every run, so that a test that fails fails again.
type numbers uint64

func (n *numbers) below(bound int64) int64 {
	*n = *n*6364136223846793005 + 1442695040888963407
	return int64(uint64(*n)>>1) % bound
}

// oneByOne shares out as P1.2 words it: by exact division, then unit for unit to the greatest remainder that has had none.
func oneByOne(total int64, weights []int64) []int64 {
	sum := new(big.Int)
	for _, w := range weights {
		sum.Add(sum, big.NewInt(w))
	}
	if sum.Sign() == 0 {
		return oneByOne(total, slices.Repeat([]int64{1}, len(weights)))
	}
	shares, rests, left := make([]int64, len(weights)), make([]*big.Int, len(weights)), total
	for i, w := range weights {
		share, rest := new(big.Int).DivMod(new(big.Int).Mul(big.NewInt(total), big.NewInt(w)), sum, new(big.Int))
		shares[i], rests[i] = share.Int64(), rest
		left -= shares[i]
	}
	for ; left > 0; left-- {
		best := 0
		for i, rest := range rests {
			if rest.Cmp(rests[best]) > 0 {
				best = i
			}
		}
		shares[best]++
		rests[best] = big.NewInt(-1)
	}
	return shares
}

// keepsShape reports where shares break P1.3.
func keepsShape(t *testing.T, total int64, weights []int64, shares []int64) {
	t.Helper()
	sum, heaviest := new(big.Int), slices.Max(weights)
	for i, s := range shares {
		sum.Add(sum, big.NewInt(s))
		if s < 0 || weights[i] == 0 && heaviest > 0 && s != 0 {
			t.Errorf("Share(%d, %d): weight %d gets %d", total, weights, weights[i], s)
		}
		for j, w := range weights {
			if weights[i] > w && s < shares[j] {
				t.Errorf("Share(%d, %d): weight %d gets %d, weight %d gets %d", total, weights, weights[i], s, w, shares[j])
			}
		}
	}
	if sum.Cmp(big.NewInt(total)) != 0 {
		t.Errorf("Share(%d, %d) adds up to %s", total, weights, sum)
	}
}

// P1.2: shares that are written out.
func TestShare(t *testing.T) {
	for _, c := range []struct {
		total         int64
		weights, want []int64
	}{
		{10, []int64{1, 1, 1}, []int64{4, 3, 3}},
		{10, []int64{1, 2}, []int64{3, 7}},
		{10, []int64{2, 1}, []int64{7, 3}},
		{10, []int64{0, 5, 0}, []int64{0, 10, 0}},
		{0, []int64{3, 4}, []int64{0, 0}},
		{0, []int64{0}, []int64{0}},
		{7, []int64{1}, []int64{7}},
		{7, []int64{mostWeight}, []int64{7}},
		{10, []int64{0, 0}, []int64{5, 5}},
		{11, []int64{0, 0, 0}, []int64{4, 4, 3}},
		{1, []int64{0, 1, 1}, []int64{0, 1, 0}},
		{1, []int64{1, 1, 2}, []int64{0, 0, 1}},
		{2, []int64{1, 1, 1, 1}, []int64{1, 1, 0, 0}},
		{5, []int64{3, 3, 1}, []int64{2, 2, 1}},
		{3, []int64{1, 3, 1, 3}, []int64{1, 1, 0, 1}},
		{mostTotal, []int64{1}, []int64{mostTotal}},
		{mostTotal, []int64{0}, []int64{mostTotal}},
		{mostTotal, []int64{mostWeight, mostWeight}, []int64{1 << 59, 1<<59 - 1}},
		{mostTotal, []int64{0, 0}, []int64{1 << 59, 1<<59 - 1}},
		{mostTotal, []int64{mostWeight, 0, 1}, []int64{mostTotal - 1024, 0, 1024}},
	} {
		got, err := fixed.Share(c.total, c.weights)
		if err != api.OK || !slices.Equal(got, c.want) {
			t.Errorf("Share(%d, %d) = %d, %d, want %d", c.total, c.weights, got, err, c.want)
		}
	}
}

// P1.2 and P1.3: shares of many kinds of totals and weights are those of exact division.
func TestShareIsExact(t *testing.T) {
	var n numbers = 1
	for range 4000 {
		totals := []int64{2, 20, 1000, 1 << 32, 1 << 60}
		bounds := []int64{1, 2, 4, 100, 1 << 31, 1 << 50}
		total := n.below(totals[n.below(int64(len(totals)))])
		bound := bounds[n.below(int64(len(bounds)))]
		weights := make([]int64, 1+n.below(12))
		for i := range weights {
			weights[i] = n.below(bound)
		}
		got, err := fixed.Share(total, weights)
		if want := oneByOne(total, weights); err != api.OK || !slices.Equal(got, want) {
			t.Fatalf("Share(%d, %d) = %d, %d, want %d", total, weights, got, err, want)
		}
		keepsShape(t, total, weights, got)
	}
}

// P1.2 and P1.3: among many equal remainders, the first ones get the units that are left.
func TestShareOfManyEqualRemainders(t *testing.T) {
	var n numbers = 2
	for range 20 {
		weights := make([]int64, 200+n.below(300))
		for i := range weights {
			weights[i] = n.below(4)
		}
		total := n.below(2000)
		got, err := fixed.Share(total, weights)
		if want := oneByOne(total, weights); err != api.OK || !slices.Equal(got, want) {
			t.Fatalf("Share(%d, %d) = %d, %d, want %d", total, weights, got, err, want)
		}
		keepsShape(t, total, weights, got)
	}
}

// P1.2 and P1.3: the greatest weights, as many as there may be, add up to more than an int64 holds.
func TestShareOfMostWeights(t *testing.T) {
	weights := slices.Repeat([]int64{mostWeight}, mostCount)
	got, err := fixed.Share(mostTotal, weights)
	even, evenErr := fixed.Even(mostTotal, mostCount)
	if err != api.OK || evenErr != api.OK || !slices.Equal(got, even) {
		t.Fatalf("errors %d, %d; %d shares beside %d", err, evenErr, len(got), len(even))
	}
	weights[mostCount-1] = 0
	got, err = fixed.Share(mostTotal, weights)
	if err != api.OK || len(got) != mostCount || got[mostCount-1] != 0 || fixed.Add(got...) != mostTotal {
		t.Fatalf("with a last weight of 0: error %d, %d shares", err, len(got))
	}
}

// P1.2: where all weights are 0, the shares are those of Even.
func TestShareOfNoWeightIsEven(t *testing.T) {
	for _, total := range []int64{0, 1, 2, 9, 10, 9999, 10000, 10001, mostTotal} {
		for _, n := range []int{1, 2, 3, 7, 9999, 10000} {
			got, err := fixed.Share(total, make([]int64, n))
			want, wantErr := fixed.Even(total, n)
			if err != api.OK || wantErr != api.OK || !slices.Equal(got, want) {
				t.Errorf("Share(%d, %d zeros) is not Even: errors %d, %d", total, n, err, wantErr)
			}
		}
	}
}

// P1.2 and P1.3: even shares differ by one at most, the larger ones come first, and they add up.
func TestEven(t *testing.T) {
	for _, c := range []struct {
		total int64
		n     int
		want  []int64
	}{
		{8, 3, []int64{3, 3, 2}},
		{9, 3, []int64{3, 3, 3}},
		{2, 4, []int64{1, 1, 0, 0}},
		{0, 2, []int64{0, 0}},
		{5, 1, []int64{5}},
		{mostTotal, 1, []int64{mostTotal}},
		{mostTotal, 2, []int64{1 << 59, 1<<59 - 1}},
	} {
		got, err := fixed.Even(c.total, c.n)
		if err != api.OK || !slices.Equal(got, c.want) {
			t.Errorf("Even(%d, %d) = %d, %d, want %d", c.total, c.n, got, err, c.want)
		}
	}
	for _, total := range []int64{0, 1, 9999, 10000, 12345678901, mostTotal} {
		got, err := fixed.Even(total, mostCount)
		each, more := total/mostCount, int(total%mostCount)
		if err != api.OK || len(got) != mostCount || fixed.Add(got...) != total {
			t.Fatalf("Even(%d, 10000): error %d, %d shares", total, err, len(got))
		}
		if slices.ContainsFunc(got[:more], func(s int64) bool { return s != each+1 }) ||
			slices.ContainsFunc(got[more:], func(s int64) bool { return s != each }) {
			t.Errorf("Even(%d, 10000) is not %d times %d, then %d", total, more, each+1, each)
		}
	}
}

// P1.2: wrong weights and totals are ErrShare, without shares.
func TestWrongSharesAreErrors(t *testing.T) {
	for name, c := range map[string]struct {
		total   int64
		weights []int64
	}{
		"nil weights":             {1, nil},
		"no weights":              {1, []int64{}},
		"too many weights":        {1, slices.Repeat([]int64{1}, mostCount+1)},
		"too many zeros":          {1, make([]int64, mostCount+1)},
		"a negative weight":       {1, []int64{-1}},
		"one negative among zero": {1, []int64{0, -1}},
		"negative that cancels":   {1, []int64{1, -1}},
		"a negative last":         {1, []int64{5, 6, -7}},
		"the lowest weight":       {1, []int64{low, 5}},
		"a weight beyond":         {1, []int64{mostWeight + 1}},
		"a weight far beyond":     {1, []int64{0, top}},
		"a negative total":        {-1, []int64{1}},
		"a negative total, even":  {-1, []int64{0}},
		"the lowest total":        {low, []int64{1, 2}},
		"a total beyond":          {mostTotal + 1, []int64{1}},
		"a total far beyond":      {top, []int64{0, 0}},
		"all wrong":               {-1, []int64{-1}},
	} {
		if got, err := fixed.Share(c.total, c.weights); err != api.ErrShare || len(got) != 0 {
			t.Errorf("Share, %s: %d shares, error %d", name, len(got), err)
		}
	}
	for _, c := range []struct {
		total int64
		n     int
	}{
		{1, 0}, {1, -1}, {1, low}, {1, mostCount + 1}, {1, top},
		{-1, 1}, {low, 1}, {mostTotal + 1, 1}, {top, 2}, {-1, -1}, {0, 0},
	} {
		if got, err := fixed.Even(c.total, c.n); err != api.ErrShare || len(got) != 0 {
			t.Errorf("Even(%d, %d): %d shares, error %d", c.total, c.n, len(got), err)
		}
	}
}

// P1.2, under the rule that arguments stay as they are and answers are new memory.
func TestShareLeavesWeightsAlone(t *testing.T) {
	for _, weights := range [][]int64{{3, 1, 2, 77, 78}, {0, 0, 0, 77, 78}} {
		before := slices.Clone(weights)
		got, err := fixed.Share(20, weights[:3])
		if err != api.OK {
			t.Fatal(err)
		}
		again, err := fixed.Share(20, weights[:3])
		if err != api.OK || !slices.Equal(got, again) {
			t.Errorf("the same call answers %d, then %d", got, again)
		}
		for i := range got[:cap(got)] {
			got[:cap(got)][i] = -9
		}
		if !slices.Equal(weights, before) {
			t.Errorf("weights %d became %d", before, weights)
		}
		if slices.Contains(again, -9) {
			t.Error("two answers share memory")
		}
	}
}
