package widths_test

import (
	"math"
	"math/big"
	"slices"
	"testing"

	"purfling/api"
	"purfling/columns"
	"purfling/widths"
)

const (
	px    = 1073741824
	share = 10000000
	wide  = 1125899906842623
	total = 576460752303423488
)

// band has a share and a wanted length: -1 is none.
func band(least int64, most int64, share int64, want int64) api.Band {
	return api.Band{Min: least, Max: most, Share: share, Want: want}
}

// free has neither a share nor a wanted length.
func free(least int64, most int64) api.Band { return band(least, most, -1, -1) }

func bands(l ...api.Band) []api.Band { return l }

// alike has so many bands.
func alike(many int, b api.Band) []api.Band { return slices.Repeat(bands(b), many) }

func list(l ...int64) []int64 { return l }

// few cuts what is too long to be told.
func few[T any](l []T) []T { return l[:min(len(l), 12)] }

// numbers answers the same numbers below a bound on every run, so that a test that fails fails again.
type numbers uint64

func (n *numbers) below(bound int) int {
	*n = *n*6364136223846793005 + 1442695040888963407
	return int(uint64(*n)>>33) % bound
}

func (n *numbers) of(l ...int64) int64 { return l[n.below(len(l))] }

// length is mostly small, so that sums come close to totals.
func (n *numbers) length() int64 {
	if n.below(16) == 0 {
		return n.of(px, wide/3, wide/2, wide-1, wide)
	}
	return n.of(0, 1, int64(n.below(10)), int64(n.below(100)), int64(n.below(100)))
}

// band is valid.
func (n *numbers) band() api.Band {
	b := free(n.length(), n.length())
	if b.Min > b.Max {
		b.Min, b.Max = b.Max, b.Min
	}
	switch n.below(4) {
	case 0:
		b.Share = n.of(0, 1, int64(n.below(3000)), int64(n.below(10000)), 10000, share)
	case 1:
		b.Want = n.of(0, px, int64(n.below(100)))
	}
	return b
}

func (n *numbers) bands(many int) []api.Band {
	l := make([]api.Band, many)
	for i := range l {
		l[i] = n.band()
	}
	return l
}

// total is one of those that some bands may have: what they need at least, or more.
func (n *numbers) total(l []api.Band) int64 {
	least, most, _ := columns.Sums(l)
	sum := n.of(least, most, least+n.length(), most+n.length(), least+int64(n.below(200)), (least+most)/2)
	if n.below(12) == 0 {
		sum = n.of(wide, wide+1, total/3, total-1, total)
	}
	return max(least, min(sum, total))
}

func bigSum(l ...int64) *big.Int {
	sum := new(big.Int)
	for _, n := range l {
		sum.Add(sum, big.NewInt(n))
	}
	return sum
}

func apart(l []api.Band) (least []int64, most []int64) {
	for _, b := range l {
		least, most = append(least, b.Min), append(most, b.Max)
	}
	return least, most
}

// usedByWords goes through the words of the chapter, in numbers without bounds.
func usedByWords(l []api.Band, want int64, there int64) int64 {
	mins, maxs := apart(l)
	least, width := bigSum(mins...), bigSum(maxs...)
	if want >= 0 {
		width.SetInt64(want)
	} else if available := big.NewInt(there); width.Cmp(available) > 0 {
		width = available
	}
	if width.Cmp(least) < 0 {
		width = least
	}
	if !width.IsInt64() {
		return math.MaxInt64
	}
	return width.Int64()
}

func wantUsed(t *testing.T, l []api.Band, asked int64, there int64, want int64) {
	t.Helper()
	if got, err := widths.Used(l, asked, there); err != api.OK || got != want {
		t.Errorf("Used(%v, %d, %d) = %d, error %d, want %d", few(l), asked, there, got, err, want)
	}
}

func holdUsed(t *testing.T, name string, l []api.Band, asked int64, there int64, right bool) {
	t.Helper()
	got, err := widths.Used(l, asked, there)
	if right && (err != api.OK || got != usedByWords(l, asked, there)) {
		t.Errorf("%s: Used(%v, %d, %d) = %d, error %d", name, few(l), asked, there, got, err)
	}
	if !right && (err != api.ErrWidth || got != 0) {
		t.Errorf("%s: Used(%v, %d, %d) = %d, error %d, want %d", name, few(l), asked, there, got, err, api.ErrWidth)
	}
}

// P15.1: total widths, written out.
func TestUsed(t *testing.T) {
	two := bands(free(10, 20), free(10, 60))
	for _, c := range []struct {
		l                 []api.Band
		asked, there, any int64
	}{
		// What is available, between what they need at least and at most.
		{two, -1, 50, 50},
		{two, -1, 79, 79},
		{two, -1, 80, 80},
		{two, -1, 81, 80},
		{two, -1, 500, 80},
		{two, -1, 21, 21},
		{two, -1, 20, 20},
		{two, -1, 19, 20},
		{two, -1, 0, 20},
		{two, -1, wide, 80},

		// What is asked for, whatever is available.
		{two, 30, 5, 30},
		{two, 30, 0, 30},
		{two, 30, 500, 30},
		{two, 21, 5, 21},
		{two, 20, 5, 20},
		{two, 19, 5, 20},
		{two, 19, 500, 20},
		{two, 3, 5, 20},
		{two, 0, 0, 20},
		{two, 0, 500, 20},
		{two, 1, 70, 20},
		{two, 90, 70, 90},
		{two, 90, 90, 90},
		{two, wide, 0, wide},
		{two, wide, wide, wide},

		// Shares and wanted lengths make no difference.
		{bands(band(10, 20, 5000, -1), band(10, 60, -1, 500)), -1, 500, 80},
		{bands(band(10, 20, share, -1), band(10, 60, 0, -1)), -1, 50, 50},
		{bands(band(10, 20, -1, px), band(10, 60, -1, 0)), -1, 5, 20},

		{nil, -1, 0, 0},
		{nil, -1, 70, 0},
		{nil, 0, 70, 0},
		{nil, 30, 70, 30},
		{nil, wide, 0, wide},
		{bands(free(0, 0)), -1, 70, 0},
		{bands(free(0, 0)), 0, 0, 0},
		{bands(free(7, 7)), -1, 70, 7},
		{bands(free(7, 7)), -1, 6, 7},
		{bands(free(0, wide)), -1, wide - 1, wide - 1},
		{bands(free(0, wide)), -1, wide, wide},
		{bands(free(0, wide), free(0, wide)), -1, wide, wide},
		{bands(free(wide, wide), free(wide, wide)), -1, wide, 2 * wide},
		{bands(free(wide, wide), free(wide, wide)), wide, 0, 2 * wide},
		{bands(free(1, wide), free(wide, wide)), -1, 70, wide + 1},
	} {
		wantUsed(t, c.l, c.asked, c.there, c.any)
	}
}

// P15.1: 10000 bands, whose sums may be beyond what a length holds.
func TestUsedMany(t *testing.T) {
	for _, many := range []int{8191, 8192, 8193, 9999, 10000} {
		most := int64(math.MaxInt64)
		if many <= 8192 {
			most = int64(many) * wide
		}
		for _, there := range list(0, 70, wide) {
			wantUsed(t, alike(many, free(wide, wide)), -1, there, most)
			wantUsed(t, alike(many, free(wide, wide)), there, 0, most)
			wantUsed(t, alike(many, free(0, wide)), -1, there, there)
			wantUsed(t, alike(many, free(0, wide)), there, 0, there)
			wantUsed(t, alike(many, free(1, wide)), -1, there, max(there, int64(many)))
			wantUsed(t, alike(many, free(1, 2)), -1, there, min(max(there, int64(many)), 2*int64(many)))
		}
	}
}

// ofWidths are beyond the bounds of widths that are asked for or available, at them, and within.
func ofWidths() []int64 {
	return list(math.MinInt64, math.MinInt64+1, -wide-1, -wide, -px, -3, -2, -1, 0, 1, px, px+1, wide-1, wide, wide+1, wide+2, total, math.MaxInt64-1, math.MaxInt64)
}

// P15.1: what is asked for and what is available have their bounds, whether or not they are looked at.
func TestUsedBounds(t *testing.T) {
	for _, l := range [][]api.Band{nil, {}, bands(free(0, 0)), bands(free(10, 20), free(10, 60)), bands(free(wide, wide), free(wide, wide)), alike(10000, free(3, 5))} {
		for _, asked := range ofWidths() {
			for _, there := range ofWidths() {
				holdUsed(t, "widths", l, asked, there, asked >= -1 && asked <= wide && there >= 0 && there <= wide)
			}
		}
	}
}

// A oneBand is valid or not, by itself.
type oneBand struct {
	b     api.Band
	right bool
}

func oneBands() []oneBand {
	return []oneBand{
		{free(0, 0), true},
		{free(0, wide), true},
		{free(wide, wide), true},
		{band(0, 5, 0, -1), true},
		{band(0, 5, share, -1), true},
		{band(0, 5, -1, 0), true},
		{band(0, 5, -1, px), true},
		{band(5, 5, -1, 2), true},
		{api.Band{}, false},
		{free(-1, 5), false},
		{free(-1, -1), false},
		{free(6, 5), false},
		{free(1, 0), false},
		{free(0, -1), false},
		{free(0, wide+1), false},
		{free(wide+1, wide+1), false},
		{free(math.MinInt64, math.MaxInt64), false},
		{free(math.MinInt64, math.MinInt64), false},
		{free(math.MaxInt64, math.MinInt64), false},
		{free(math.MaxInt64, math.MaxInt64), false},
		{band(0, 5, -2, -1), false},
		{band(0, 5, -1, -2), false},
		{band(0, 5, share+1, -1), false},
		{band(0, 5, -1, px+1), false},
		{band(0, 5, 7, 7), false},
		{band(0, 5, 0, 0), false},
		{band(0, 5, math.MinInt64, -1), false},
		{band(0, 5, -1, math.MaxInt64), false},
	}
}

// P15.1: bands have to be valid, wherever they stand, and whatever is asked for and available.
func TestUsedWrongBands(t *testing.T) {
	for _, c := range oneBands() {
		for at := range 4 {
			l := slices.Insert(bands(free(0, 9), free(5, 5), band(1, 3, 40, -1)), at, c.b)
			for _, there := range list(0, 70, wide) {
				holdUsed(t, "a band alone", bands(c.b), -1, there, c.right)
				holdUsed(t, "a band alone", bands(c.b), there, 70, c.right)
				holdUsed(t, "a band", l, -1, there, c.right)
				holdUsed(t, "a band", l, there, 70, c.right)
			}
			holdUsed(t, "a band and a wrong width", l, -2, 70, false)
			holdUsed(t, "a band and a wrong width", l, 30, -1, false)
		}
	}
	for _, many := range []int{0, 1, 2, 9999, 10000, 10001, 10002, 65537} {
		holdUsed(t, "bands", alike(many, free(3, 5)), -1, wide, many <= 10000)
		holdUsed(t, "bands", alike(many, free(0, 0)), 30, 0, many <= 10000)
	}
	l := alike(10000, free(3, 5))
	for _, at := range []int{0, 1, 5000, 9999} {
		l[at].Min = 6
		holdUsed(t, "a wrong band of many", l, -1, 70, false)
		holdUsed(t, "a wrong band of many", l, 30, 70, false)
		l[at].Min = 3
	}
}

// P15.1: random bands, against the chapter's words in numbers without bounds.
func TestUsedRandom(t *testing.T) {
	var n numbers = 151
	for range 20000 {
		l := n.bands(n.below(7))
		asked, there := n.of(-1, n.length(), int64(n.below(400))), n.of(n.length(), int64(n.below(400)))
		wantUsed(t, l, asked, there, usedByWords(l, asked, there))
		if t.Failed() {
			return
		}
	}
}

// P15.1: what is given to Used and to Auto is not written to, in its spare capacity neither, and an answer shares memory with nothing.
func TestBandsMemory(t *testing.T) {
	whole := bands(free(10, 20), band(10, 60, 3000, -1), band(5, 9, -1, 9), free(-1, -2), free(-3, -4))
	before := slices.Clone(whole)
	for _, sum := range list(25, 26, 60, 80, 100, 1000) {
		l := whole[:3]
		first, _ := widths.Auto(l, sum)
		want := slices.Clone(first)
		second, _ := widths.Auto(l, sum)
		widths.Used(l, -1, sum)
		widths.Used(l, sum, 70)
		all := first[:cap(first)]
		for i := range all {
			all[i] = -99
		}
		if !slices.Equal(whole, before) {
			t.Error("bands were written to")
		}
		if !slices.Equal(second, want) || !slices.Equal(want, autoByWords(l, sum)) {
			t.Errorf("Auto for %d: %d, then %d", sum, want, second)
		}
	}
}
