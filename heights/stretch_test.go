package heights_test

import (
	"math/big"
	"slices"
	"testing"

	"purfling/api"
	"purfling/heights"
)

// stretchByWords goes through the words of the chapter one by one.
func stretchByWords(rows []int64, wants []int64, sum int64) []int64 {
	var chosen, all []int
	for row, want := range wants {
		all = append(all, row)
		if want == -1 {
			chosen = append(chosen, row)
		}
	}
	if len(chosen) == 0 {
		chosen = all
	}
	var weights []int64
	for _, row := range chosen {
		weights = append(weights, rows[row])
	}
	stretched := slices.Clone(rows)
	for i, s := range sharesByWords(excessByWords(big.NewInt(sum), rows), weights) {
		stretched[chosen[i]] += s
	}
	return stretched
}

func wantStretch(t *testing.T, rows []int64, wants []int64, sum int64, want []int64) {
	t.Helper()
	if got, err := heights.Stretch(rows, wants, sum); err != api.OK || !slices.Equal(got, want) {
		t.Errorf("Stretch(%d, %d, %d) = %d, error %d, want %d", few(rows), few(wants), sum, few(got), err, few(want))
	}
}

// P16.3: stretched rows add up to the total, if it is not less than their sum; otherwise they stay as they are.
func holdStretch(t *testing.T, name string, rows []int64, wants []int64, sum int64, right bool) {
	t.Helper()
	got, err := heights.Stretch(rows, wants, sum)
	if !right {
		if err != api.ErrHigh || len(got) != 0 {
			t.Errorf("%s: Stretch(%d, %d, %d) = %d, error %d, want %d", name, few(rows), few(wants), sum, few(got), err, api.ErrHigh)
		}
		return
	}
	if err != api.OK || len(got) != len(rows) {
		t.Fatalf("%s: Stretch(%d, %d, %d) = %d, error %d", name, few(rows), few(wants), sum, few(got), err)
	}
	before, now := bigSum(rows...), bigSum(got...)
	if before.Cmp(big.NewInt(sum)) >= 0 {
		if !slices.Equal(got, rows) {
			t.Errorf("%s: Stretch(%d, %d, %d) = %d", name, few(rows), few(wants), sum, few(got))
		}
		return
	}
	if now.Cmp(big.NewInt(sum)) != 0 {
		t.Errorf("%s: Stretch(%d, %d, %d) = %d, which adds up to %d", name, few(rows), few(wants), sum, few(got), now)
	}
	free := slices.Contains(wants, -1)
	for row := range rows {
		if got[row] < rows[row] || free && wants[row] != -1 && got[row] != rows[row] {
			t.Errorf("%s: Stretch(%d, %d, %d): row %d is %d", name, few(rows), few(wants), sum, row, got[row])
		}
	}
}

// P16.2: stretched rows, written out; the first one is the chapter's example.
func TestStretch(t *testing.T) {
	for _, c := range []struct {
		rows, wants []int64
		sum         int64
		want        []int64
	}{
		{list(10, 30, 5), list(-1, -1, 5), 85, list(20, 60, 5)},

		// Among the rows without a requested height, wherever they stand.
		{list(10, 5, 30), list(-1, 5, -1), 85, list(20, 5, 60)},
		{list(5, 10, 30), list(5, -1, -1), 85, list(5, 20, 60)},
		{list(5, 10, 30), list(0, -1, -1), 85, list(5, 20, 60)},
		{list(5, 10, 30), list(px, -1, -1), 85, list(5, 20, 60)},
		{list(5, 10, 30), list(1, -1, 1), 85, list(5, 50, 30)},
		{list(5, 10, 30), list(-1, 1, 1), 85, list(45, 10, 30)},
		{list(5, 10, 30), list(0, 0, -1), 85, list(5, 10, 70)},
		{list(10, 30), list(-1, 30), 80, list(50, 30)},
		{list(10, 30, 5), list(-1, -1, 5), 46, list(10, 31, 5)},
		{list(10, 30, 5), list(-1, -1, 5), 47, list(11, 31, 5)},
		{list(10, 30, 5), list(-1, -1, 5), 48, list(11, 32, 5)},

		// They are all 0: evenly, whatever the other ones are.
		{list(0, 30), list(-1, 5), 40, list(10, 30)},
		{list(0, 0, 5), list(-1, -1, 5), 12, list(4, 3, 5)},
		{list(0, 5, 0), list(-1, 5, -1), 12, list(4, 5, 3)},
		{list(0, 0, 5), list(-1, -1, -1), 12, list(0, 0, 12)},
		{list(0, 0, 0), list(-1, -1, -1), 11, list(4, 4, 3)},
		{list(0, 1, 0), list(-1, 0, -1), 12, list(6, 1, 5)},

		// There are none: among all.
		{list(10, 30), list(1, 1), 80, list(20, 60)},
		{list(10, 30), list(0, 0), 80, list(20, 60)},
		{list(10, 30), list(px, px), 80, list(20, 60)},
		{list(10, 30), list(0, px), 80, list(20, 60)},
		{list(10, 30), list(10, 30), 80, list(20, 60)},
		{list(10, 30), list(10, 30), 41, list(10, 31)},
		{list(10, 30), list(10, 30), 42, list(11, 31)},
		{list(0, 0), list(0, 0), 7, list(4, 3)},
		{list(0, 0, 7), list(5, 5, 5), 9, list(0, 0, 9)},
		{list(1, 1, 1), list(9, 9, 9), 7, list(3, 2, 2)},

		// There is no excess.
		{list(10, 30), list(-1, 1), 40, list(10, 30)},
		{list(10, 30), list(-1, 1), 39, list(10, 30)},
		{list(10, 30), list(-1, 1), 8, list(10, 30)},
		{list(10, 30), list(1, 1), 40, list(10, 30)},
		{list(10, 30), list(1, 1), 0, list(10, 30)},
		{list(10, 30), list(50, 50), 40, list(10, 30)},
		{list(0, 0), list(-1, -1), 0, list(0, 0)},

		{list(0), list(-1), 0, list(0)},
		{list(0), list(-1), 7, list(7)},
		{list(0), list(5), 7, list(7)},
		{list(5), list(-1), 7, list(7)},
		{list(5), list(5), 7, list(7)},
		{list(9), list(5), 7, list(9)},
		{list(0), list(-1), total, list(total)},
		{list(high), list(-1), high, list(high)},
		{list(high), list(-1), high - 1, list(high)},
		{list(high), list(px), high + 1, list(high + 1)},
		{list(high), list(-1), total, list(total)},
		{list(high, high), list(-1, -1), total, list(total/2, total/2)},
		{list(high, high), list(-1, 0), total, list(total-high, high)},
		{list(high, high), list(0, -1), total, list(high, total-high)},
		{list(1, high), list(-1, 0), total, list(total-high, high)},
		{list(high, high), list(-1, -1), 0, list(high, high)},
	} {
		wantStretch(t, c.rows, c.wants, c.sum, c.want)
		wantStretch(t, c.rows, c.wants, c.sum, stretchByWords(c.rows, c.wants, c.sum))
		holdStretch(t, "written out", c.rows, c.wants, c.sum, true)
	}
}

// P16.2: rows, requested heights and the total have their bounds, wherever they stand.
func TestStretchBounds(t *testing.T) {
	for _, n := range ofHeights() {
		holdStretch(t, "a row alone", list(n), list(-1), 50, isHeight(n))
		holdStretch(t, "a row alone", list(n), list(4), 50, isHeight(n))
		holdStretch(t, "a requested height alone", list(5), list(n), 50, isWant(n))
		holdStretch(t, "a total alone", list(5), list(-1), n, n >= 0 && n <= total)
		holdStretch(t, "a total alone", list(0), list(0), n, n >= 0 && n <= total)
		for i := range 3 {
			rows, wants := list(10, 0, 5), list(-1, 2, 0)
			rows[i], wants[i] = n, n
			for _, sum := range list(0, 50, high, total) {
				holdStretch(t, "a row", rows, list(-1, 2, 0), sum, isHeight(n))
				holdStretch(t, "a requested height", list(10, 0, 5), wants, sum, isWant(n))
				holdStretch(t, "both", rows, wants, sum, isHeight(n) && isWant(n))
			}
			for _, m := range ofHeights() {
				sum := m >= 0 && m <= total
				holdStretch(t, "a row and a total", rows, list(-1, 2, 0), m, isHeight(n) && sum)
				holdStretch(t, "a requested height and a total", list(10, 0, 5), wants, m, isWant(n) && sum)
				rows[(i+1)%3] = m
				holdStretch(t, "two rows", rows, list(-1, 2, 0), 50, isHeight(n) && isHeight(m))
				wants[(i+1)%3] = m
				holdStretch(t, "two requested heights", list(10, 0, 5), wants, 50, isWant(n) && isWant(m))
				rows[(i+1)%3], wants[(i+1)%3] = 3, 3
			}
		}
	}
}

// P16.2: there are 1 to 10000 rows, and as many requested heights.
func TestStretchCounts(t *testing.T) {
	counts := []int{0, 1, 2, 3, 100, 9999, 10000, 10001, 10002, 20000, 65537}
	for _, many := range counts {
		for _, wants := range counts {
			right := many == wants && many >= 1 && many <= 10000
			holdStretch(t, "none requested", alike(many, 1), alike(wants, -1), 70000, right)
			holdStretch(t, "requested", alike(many, 1), alike(wants, 5), 70000, right)
			holdStretch(t, "zeros", alike(many, 0), alike(wants, 0), 0, right)
		}
	}
	for _, sum := range list(0, 5, -1) {
		holdStretch(t, "nothing", nil, nil, sum, false)
		holdStretch(t, "empty", list(), list(), sum, false)
		holdStretch(t, "no rows", nil, list(-1), sum, false)
		holdStretch(t, "no requested heights", list(1), nil, sum, false)
	}
	rows, wants := alike(10000, 3), alike(10000, -1)
	for _, i := range []int{0, 1, 5000, 9998, 9999} {
		for _, n := range list(-1, high+1) {
			rows[i] = n
			holdStretch(t, "a wrong row of many", rows, wants, 50000, false)
			rows[i] = 3
		}
		for _, n := range list(-2, px+1) {
			wants[i] = n
			holdStretch(t, "a wrong requested height of many", rows, wants, 50000, false)
			wants[i] = -1
		}
	}
}

// P16.2: many rows, whose sum may be beyond the total, and beyond what a length holds.
func TestStretchMany(t *testing.T) {
	for _, many := range []int{511, 512, 513, 514, 8191, 8192, 8193, 9999, 10000} {
		rows := alike(many, high)
		for _, sum := range list(0, 1, total-513, total-512, total-511, total-1, total) {
			for _, want := range list(-1, 0, px) {
				holdStretch(t, "highest rows", rows, alike(many, want), sum, true)
				wantStretch(t, rows, alike(many, want), sum, stretchByWords(rows, alike(many, want), sum))
			}
		}
	}
	wantStretch(t, alike(512, high), alike(512, -1), total, alike(512, high+1))
	wantStretch(t, alike(512, high), alike(512, -1), total-1, append(alike(511, high+1), high))
	wantStretch(t, alike(10000, 0), alike(10000, -1), 25000, slices.Concat(alike(5000, 3), alike(5000, 2)))
	wantStretch(t, alike(10000, 1), alike(10000, 9), 35000, slices.Concat(alike(5000, 4), alike(5000, 3)))
	wantStretch(t, alike(10000, 1), append(alike(9999, 9), -1), 35000, append(alike(9999, 1), 25001))
	wantStretch(t, alike(10000, 1), append(list(-1), alike(9999, 0)...), 35000, append(list(25001), alike(9999, 1)...))
}

// P16.2, P16.3: random rows, against the chapter's words in numbers without bounds.
func TestStretchRandom(t *testing.T) {
	var n numbers = 164
	excesses := 0
	for range 20000 {
		many := 1 + n.below(7)
		rows, wants := n.heights(many), n.wants(many)
		if n.below(3) == 0 {
			wants = n.heights(many)
			for row, want := range wants {
				wants[row] = min(want, px)
			}
		}
		sum := bigSum(rows...).Int64() + n.of(-1, 0, 1, 2, int64(n.below(200)), int64(n.below(200)), n.height())
		if n.below(12) == 0 {
			sum = n.of(0, n.height(), high+1, total/3, total-1, total)
		}
		sum = max(0, min(sum, total))
		want := stretchByWords(rows, wants, sum)
		wantStretch(t, rows, wants, sum, want)
		holdStretch(t, "random", rows, wants, sum, true)
		if t.Failed() {
			return
		}
		if !slices.Equal(rows, want) {
			excesses++
		}
	}
	if excesses < 8000 {
		t.Errorf("only %d of 20000 had an excess", excesses)
	}
}
