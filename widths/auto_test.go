package widths_test

import (
	"math"
	"math/big"
	"slices"
	"testing"

	"purfling/api"
	"purfling/columns"
	"purfling/widths"
)

// sharesByWords divides in numbers without bounds, and hands out what remains one by one.
func sharesByWords(sum *big.Int, weights []int64) []int64 {
	all := bigSum(weights...)
	if all.Sign() == 0 {
		weights = slices.Repeat(list(1), len(weights))
		all = bigSum(weights...)
	}
	left := new(big.Int).Set(sum)
	var shares []int64
	var rests []*big.Int
	for _, w := range weights {
		product := new(big.Int).Mul(sum, big.NewInt(w))
		quotient, rest := new(big.Int).DivMod(product, all, new(big.Int))
		shares, rests = append(shares, quotient.Int64()), append(rests, rest)
		left.Sub(left, quotient)
	}
	for ; left.Sign() > 0; left.Sub(left, big.NewInt(1)) {
		next := 0
		for i := range rests {
			if rests[i].Cmp(rests[next]) > 0 {
				next = i
			}
		}
		shares[next]++
		rests[next].SetInt64(-1)
	}
	return shares
}

// partByWords takes a share of a length without bounds, and brings it to a bound then.
func partByWords(share int64, of int64) int64 {
	part := new(big.Int).Mul(big.NewInt(share), big.NewInt(of))
	part.Div(part, big.NewInt(10000))
	if !part.IsInt64() {
		return math.MaxInt64
	}
	return part.Int64()
}

// sharedAmong are the columns that have what remains, where the columns get all that they prefer.
func sharedAmong(l []api.Band) []int {
	var unbound, shareless, all []int
	for col, b := range l {
		all = append(all, col)
		if b.Share < 0 {
			shareless = append(shareless, col)
		}
		if b.Share < 0 && b.Want < 0 {
			unbound = append(unbound, col)
		}
	}
	switch {
	case len(unbound) > 0:
		return unbound
	case len(shareless) > 0:
		return shareless
	}
	return all
}

// autoByWords goes through the words of the chapter one by one.
func autoByWords(l []api.Band, sum int64) []int64 {
	mins, maxs := apart(l)
	preferred := slices.Clone(maxs)
	for col, b := range l {
		if b.Share >= 0 {
			preferred[col] = max(min(partByWords(b.Share, sum), sum), b.Min)
		}
	}
	all := new(big.Int).Sub(big.NewInt(sum), bigSum(preferred...))
	if all.Sign() < 0 {
		all.Sub(big.NewInt(sum), bigSum(mins...))
		var weights []int64
		for col := range l {
			weights = append(weights, min(preferred[col]-mins[col], wide))
		}
		for col, s := range sharesByWords(all, weights) {
			mins[col] += s
		}
		return mins
	}
	cols := sharedAmong(l)
	var weights []int64
	for _, col := range cols {
		weights = append(weights, maxs[col])
	}
	for i, s := range sharesByWords(all, weights) {
		preferred[cols[i]] += s
	}
	return preferred
}

func wantAuto(t *testing.T, l []api.Band, sum int64, want []int64) {
	t.Helper()
	if got, err := widths.Auto(l, sum); err != api.OK || !slices.Equal(got, want) {
		t.Errorf("Auto(%v, %d) = %d, error %d, want %d", few(l), sum, few(got), err, few(want))
	}
}

// P15.3: automatic widths add up to the total, and none is less than its Min.
func holdAuto(t *testing.T, name string, l []api.Band, sum int64, right bool) {
	t.Helper()
	got, err := widths.Auto(l, sum)
	if !right {
		if err != api.ErrWidth || len(got) != 0 {
			t.Errorf("%s: Auto(%v, %d) = %d, error %d, want %d", name, few(l), sum, few(got), err, api.ErrWidth)
		}
		return
	}
	if err != api.OK || len(got) != len(l) {
		t.Fatalf("%s: Auto(%v, %d) = %d, error %d", name, few(l), sum, few(got), err)
	}
	if bigSum(got...).Cmp(big.NewInt(sum)) != 0 {
		t.Errorf("%s: Auto(%v, %d) = %d, which adds up to %d", name, few(l), sum, few(got), bigSum(got...))
	}
	for col, b := range l {
		if got[col] < b.Min {
			t.Errorf("%s: Auto(%v, %d): column %d is %d", name, few(l), sum, col, got[col])
		}
	}
}

// P15.1: columns without shares and wanted lengths, written out; the first one is the chapter's example.
func TestAutoFree(t *testing.T) {
	two := bands(free(10, 20), free(10, 60))
	for _, c := range []struct {
		l    []api.Band
		sum  int64
		want []int64
	}{
		{two, 60, list(17, 43)},

		// Below what they prefer: 10 and 50 are the weights.
		{two, 20, list(10, 10)},
		{two, 21, list(10, 11)},
		{two, 22, list(10, 12)},
		{two, 23, list(11, 12)},
		{two, 24, list(11, 13)},
		{two, 26, list(11, 15)},
		{two, 50, list(15, 35)},
		{two, 79, list(20, 59)},
		// From there on: 20 and 60 are.
		{two, 80, list(20, 60)},
		{two, 81, list(20, 61)},
		{two, 82, list(21, 61)},
		{two, 84, list(21, 63)},
		{two, 100, list(25, 75)},
		{two, 800, list(200, 600)},

		{bands(free(0, 0)), 0, list(0)},
		{bands(free(0, 0)), 7, list(7)},
		{bands(free(3, 9)), 3, list(3)},
		{bands(free(3, 9)), 6, list(6)},
		{bands(free(3, 9)), 9, list(9)},
		{bands(free(3, 9)), 12, list(12)},
		{bands(free(3, 9)), total, list(total)},
		{bands(free(wide, wide)), wide, list(wide)},
		{bands(free(wide, wide)), total, list(total)},
		{bands(free(0, wide)), wide - 1, list(wide - 1)},
		{bands(free(0, wide)), 0, list(0)},

		// A column that needs as much as it prefers gets no more, as long as others lack something.
		{bands(free(5, 5), free(0, 10)), 5, list(5, 0)},
		{bands(free(5, 5), free(0, 10)), 14, list(5, 9)},
		{bands(free(5, 5), free(0, 10)), 15, list(5, 10)},
		{bands(free(5, 5), free(0, 10)), 18, list(6, 12)},
		{bands(free(0, 10), free(5, 5)), 14, list(9, 5)},

		// All Maxs are 0.
		{bands(free(0, 0), free(0, 0)), 0, list(0, 0)},
		{bands(free(0, 0), free(0, 0)), 9, list(5, 4)},
		{bands(free(0, 0), free(0, 0), free(0, 0)), 11, list(4, 4, 3)},
		{bands(free(0, 0), free(0, 1)), 9, list(0, 9)},
		{bands(free(0, 1), free(0, 0)), 9, list(9, 0)},

		{bands(free(0, wide), free(0, wide)), wide, list(1<<49, 1<<49-1)},
		{bands(free(0, wide), free(0, wide)), total, list(total/2, total/2)},
		{bands(free(wide, wide), free(wide, wide)), 2 * wide, list(wide, wide)},
		{bands(free(wide, wide), free(0, wide)), wide, list(wide, 0)},
		{bands(free(wide, wide), free(0, wide)), wide + 5, list(wide, 5)},
		{bands(free(wide, wide), free(1, 1), free(0, 0)), wide + 1, list(wide, 1, 0)},
	} {
		wantAuto(t, c.l, c.sum, c.want)
		wantAuto(t, c.l, c.sum, autoByWords(c.l, c.sum))
	}
}

// P15.1: columns with shares and wanted lengths, written out.
func TestAutoAsked(t *testing.T) {
	for _, c := range []struct {
		l    []api.Band
		sum  int64
		want []int64
	}{
		// What remains is for columns without a share and without a wanted length.
		{bands(band(10, 20, 5000, -1), band(0, 30, -1, 30), free(5, 9)), 100, list(50, 30, 20)},
		{bands(free(5, 9), band(0, 30, -1, 30), band(10, 20, 5000, -1)), 100, list(20, 30, 50)},
		{bands(free(5, 9), band(0, 30, -1, 30), free(1, 3)), 100, list(53, 30, 17)}, // 58 by 9 and 3: 43.5 and 14.5
		{bands(free(0, 0), band(0, 30, -1, 30), free(0, 0)), 37, list(4, 30, 3)},
		{bands(free(0, 0), band(0, 30, 0, -1), free(0, 0)), 37, list(19, 0, 18)},
		{bands(free(0, 0), band(0, 9, -1, 0), free(0, 1)), 37, list(0, 9, 28)},
		{bands(band(0, 9, 1000, -1), free(0, 0)), 100, list(10, 90)},
		{bands(band(0, 9, -1, 9), free(0, 0)), 100, list(9, 91)},

		// There are none: for those without a share.
		{bands(band(10, 20, 1000, -1), band(0, 30, -1, 30)), 100, list(10, 90)},
		{bands(band(0, 30, -1, 30), band(10, 20, 1000, -1)), 100, list(90, 10)},
		{bands(band(0, 30, -1, 30), band(10, 20, 1000, -1), band(0, 10, -1, 10)), 100, list(68, 10, 22)}, // 50 by 30 and 10: 37.5 and 12.5
		{bands(band(0, 30, -1, 0)), 100, list(100)},
		{bands(band(0, 0, -1, 0), band(0, 0, -1, 0), band(0, 9, 0, -1)), 7, list(4, 3, 0)},

		// There are none either: for all.
		{bands(band(1, 1, 1000, -1), band(1, 3, 2000, -1)), 100, list(28, 72)}, // 70 by 1 and 3: 17.5 and 52.5
		{bands(band(1, 1, 0, -1), band(1, 3, 0, -1)), 10, list(3, 7)},          // 8 by 1 and 3
		{bands(band(0, 0, 1000, -1), band(0, 0, 2000, -1)), 100, list(45, 55)},
		{bands(band(0, 5, 0, -1)), 9, list(9)},
		{bands(band(0, 5, 10000, -1)), 9, list(9)},
		{bands(band(0, 5, share, -1)), 9, list(9)},

		// A share is of the total, at least the Min, and the Max makes no difference to it.
		{bands(band(10, 20, 3333, -1), free(0, 0)), 100, list(33, 67)},
		{bands(band(10, 20, 3333, -1), free(0, 0)), 99, list(32, 67)},
		{bands(band(10, 20, 1000, -1), free(0, 0)), 100, list(10, 90)},
		{bands(band(10, 20, 900, -1), free(0, 0)), 100, list(10, 90)},
		{bands(band(10, 20, 0, -1), free(0, 0)), 100, list(10, 90)},
		{bands(band(10, wide, 3000, -1), free(0, 0)), 100, list(30, 70)},
		{bands(band(0, 0, 10000, -1), free(0, 0)), 100, list(100, 0)},

		// More than the total is asked for: by what is missing from what is preferred, with shares of at most the total.
		{bands(band(0, 0, 20000, -1), free(0, 50)), 100, list(67, 33)},
		{bands(band(0, 0, share, -1), free(0, 100)), 100, list(50, 50)},
		{bands(band(0, 0, 10000, -1), free(0, 1)), 100, list(99, 1)},
		{bands(band(0, 0, 9950, -1), free(0, 1)), 100, list(99, 1)},
		{bands(band(0, 0, 9900, -1), free(0, 1)), 100, list(99, 1)},
		{bands(band(40, 40, 5000, -1), free(40, 60)), 100, list(47, 53)},           // 20 by 10 and 20
		{bands(band(40, 40, 5000, -1), band(40, 60, -1, 60)), 100, list(47, 53)},   // a wanted length is its Max
		{bands(band(40, 90, 5000, -1), band(40, 60, 6000, -1)), 100, list(47, 53)}, // a Max beside a share is none
		{bands(band(60, 60, 5000, -1), free(40, 60)), 100, list(60, 40)},
		{bands(band(60, 60, 5000, -1), free(40, 60)), 110, list(60, 50)},
		{bands(band(50, 60, 5000, -1), band(50, 60, 5000, -1)), 100, list(50, 50)},
		{bands(band(0, 60, 5000, -1), band(0, 60, 5000, -1)), 101, list(51, 50)}, // 1 by 60 and 60
		{bands(band(0, 60, 5000, -1), band(0, 61, 5000, -1)), 101, list(50, 51)},
	} {
		wantAuto(t, c.l, c.sum, c.want)
		wantAuto(t, c.l, c.sum, autoByWords(c.l, c.sum))
	}
}

// P15.1: a weight is at most 2^50 - 1, even where a share of the total is more.
func TestAutoWide(t *testing.T) {
	all := band(0, 0, 10000, -1)
	for _, c := range []struct {
		b           api.Band
		first, next int64
	}{
		{all, total / 2, total / 2},
		{band(0, 0, 5000, -1), total / 2, total / 2},
		{band(0, 0, 20, -1), total / 2, total / 2},                                 // by 2^50 - 1 twice, for 1152921504606846 is more
		{band(0, 0, 19, -1), 292204355384946978, 284256396918476510},               // by 2^50 - 1 and 1095275429376504
		{band(0, 0, 10, -1), 381257111311788016, 195203640991635472},               // by 2^50 - 1 and 576460752303423
		{band(1, 1, 20, -1), total / 2, total / 2},                                 // what is left is odd: half of it, and 1 for the Min
		{band(wide, wide, 20, -1), 561850441793535978, total - 561850441793535978}, // by 2^50 - 1 and 27021597764223
		{free(0, wide), total / 2, total / 2},
		{free(0, 0), total, 0},
	} {
		wantAuto(t, bands(all, c.b), total, list(c.first, c.next))
		wantAuto(t, bands(all, c.b), total, autoByWords(bands(all, c.b), total))
	}
	// What is preferred is the total, so that no weights are needed.
	wantAuto(t, bands(band(0, 0, 7500, -1), band(0, 0, 2500, -1)), total, list(total/4*3, total/4))
	wantAuto(t, bands(all, free(0, 0)), total, list(total, 0))
	wantAuto(t, bands(free(wide, wide), band(0, 0, 5000, -1)), total, list(total/2, total/2))
	wantAuto(t, bands(all, all, all), total-2, list((total-2)/3, (total-2)/3, (total-2)/3))
	wantAuto(t, bands(band(0, 0, share, -1), free(wide, wide)), total, list(total-wide, wide))
	wantAuto(t, bands(band(0, 0, 16, -1)), total, list(total))
}

// P15.1: totals from the sum of the Mins to 2^59.
func TestAutoBounds(t *testing.T) {
	totals := list(math.MinInt64, -total, -wide, -1, 0, 1, 19, 20, 21, 59, 60, 61, 79, 80, 81, px, wide-1, wide, wide+1, 2*wide-1, 2*wide, 2*wide+1, total-1, total, total+1, total+2, 2*total, math.MaxInt64-1, math.MaxInt64)
	for _, l := range [][]api.Band{
		bands(free(0, 0)), bands(free(1, 1)), bands(free(0, wide)), bands(free(wide, wide)), bands(free(wide, wide), free(wide, wide)),
		bands(free(10, 20), free(10, 60)), bands(band(20, 20, 10, -1), band(40, 70, -1, 70)), bands(band(30, 30, share, -1), band(30, 30, share, -1)),
		alike(19, free(1, 2)), alike(20, band(1, 2, 600, -1)), alike(21, band(1, 2, -1, 2)), alike(80, free(1, 2)), alike(511, free(wide, wide)), alike(512, free(wide, wide)),
	} {
		least, _, _ := columns.Sums(l)
		for _, sum := range append(totals, least-1, least, least+1) {
			holdAuto(t, "totals", l, sum, sum >= least && sum <= total)
		}
	}
	for _, many := range []int{513, 8191, 8192, 8193, 8200, 9999, 10000} {
		for _, sum := range totals {
			holdAuto(t, "Mins beyond all totals", alike(many, free(wide, wide)), sum, false)
		}
	}
}

// P15.1: bands have to be valid, wherever they stand, and there has to be one.
func TestAutoWrongBands(t *testing.T) {
	for _, sum := range list(math.MinInt64, -1, 0, 1, 70, wide, total, math.MaxInt64) {
		holdAuto(t, "no bands", nil, sum, false)
		holdAuto(t, "no bands", bands(), sum, false)
	}
	for _, c := range oneBands() {
		for _, sum := range list(0, 5, 6, 70, 2*wide, total) {
			if !c.right || sum >= c.b.Min {
				holdAuto(t, "a band alone", bands(c.b), sum, c.right)
			}
			for at := range 4 {
				l := slices.Insert(bands(free(0, 9), free(5, 5), band(1, 3, 40, -1)), at, c.b)
				if !c.right || sum >= c.b.Min+6 {
					holdAuto(t, "a band", l, sum, c.right)
				}
			}
		}
	}
	for _, many := range []int{1, 2, 9999, 10000, 10001, 10002, 65537} {
		for _, sum := range list(3*65537, 4*9999, wide, total) {
			holdAuto(t, "bands", alike(many, free(3, 5)), sum, many <= 10000)
			holdAuto(t, "bands", alike(many, free(0, 0)), sum, many <= 10000)
		}
	}
	l := alike(10000, free(3, 5))
	for _, at := range []int{0, 1, 5000, 9999} {
		l[at].Min = 6
		holdAuto(t, "a wrong band of many", l, 40000, false)
		holdAuto(t, "a wrong band of many", l, total, false)
		l[at].Min = 3
	}
}

// P15.1, P15.3: random bands and totals, against the chapter's words in numbers without bounds.
func TestAutoRandom(t *testing.T) {
	var n numbers = 152
	narrow := 0
	for range 30000 {
		l := n.bands(1 + n.below(7))
		sum := n.total(l)
		want := autoByWords(l, sum)
		wantAuto(t, l, sum, want)
		holdAuto(t, "random", l, sum, true)
		if t.Failed() {
			return
		}
		least, _ := apart(l)
		if _, most, _ := columns.Sums(l); sum < most && !slices.Equal(want, least) {
			narrow++
		}
	}
	if narrow < 5000 || narrow > 25000 {
		t.Errorf("%d of 30000 were less than the Maxs", narrow)
	}
}

// P15.1, P15.3: as many columns as there may be.
func TestAutoMany(t *testing.T) {
	var n numbers = 153
	for _, many := range []int{100, 400, 9999, 10000} {
		l := n.bands(many)
		for col, b := range l {
			l[col].Min, l[col].Max = b.Min%1000, b.Min%1000+(b.Max-b.Min)%1000
		}
		least, most, _ := columns.Sums(l)
		for _, sum := range list(least, (least+most)/2, most, 2*most, total) {
			holdAuto(t, "many", l, sum, true)
			if many <= 400 {
				wantAuto(t, l, sum, autoByWords(l, sum))
			}
		}
	}
	wantAuto(t, alike(10000, free(1, 2)), 10000, slices.Repeat(list(1), 10000))
	wantAuto(t, alike(10000, free(1, 2)), 20000, slices.Repeat(list(2), 10000))
	wantAuto(t, alike(10000, free(0, wide)), 70000, slices.Repeat(list(7), 10000))
	wantAuto(t, alike(10000, free(0, 0)), 70000, slices.Repeat(list(7), 10000))
	wantAuto(t, alike(10000, band(0, wide, share, -1)), 70000, slices.Repeat(list(7), 10000))
	for _, many := range []int{15, 16, 17, 32, 10000} {
		l := alike(many, band(0, 0, share, -1)) // together they prefer more than what a length holds, from 16 on
		wantAuto(t, l, total, autoByWords(l, total))
		holdAuto(t, "shares of all", l, total, true)
	}
	last := alike(10000, band(0, 0, -1, 0))
	last[9999] = free(0, 0)
	want := make([]int64, 10000)
	want[9999] = total
	wantAuto(t, last, total, want)
}
