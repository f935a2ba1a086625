// Package fixed does arithmetic on lengths that stays within bounds, and shares lengths out to the last unit: see shared/doc/01-fixed.md.
package fixed

import (
	"math"
	"math/bits"

	"purfling/api"
)

// Add saturates each sum on the way, so the order of the lengths matters.
func Add(l ...int64) int64 {
	var sum int64
	for _, n := range l {
		sum = plus(sum, n)
	}
	return sum
}

func plus(a int64, b int64) int64 {
	switch {
	case b > 0 && a > math.MaxInt64-b:
		return math.MaxInt64
	case b < 0 && a < math.MinInt64-b:
		return math.MinInt64
	}
	return a + b
}

// Sub isn't a sum with -b, for the lowest length has no opposite.
func Sub(a int64, b int64) int64 {
	switch {
	case b < 0 && a > math.MaxInt64+b:
		return math.MaxInt64
	case b > 0 && a < math.MinInt64+b:
		return math.MinInt64
	}
	return a - b
}

// Mul multiplies magnitudes, for the high word of their product tells whether it is beyond the bounds.
func Mul(a int64, b int64) int64 {
	high, low := bits.Mul64(magnitude(a), magnitude(b))
	beyond := high > 0 || low > math.MaxInt64
	switch negative := (a < 0) != (b < 0); {
	case beyond && negative:
		return math.MinInt64
	case beyond:
		return math.MaxInt64
	case negative:
		return -int64(low)
	}
	return int64(low)
}

// magnitude is unsigned, for that of the lowest length is beyond the greatest one.
func magnitude(n int64) uint64 {
	if n < 0 {
		return -uint64(n)
	}
	return uint64(n)
}

// Part divides a product of two words, for that may be beyond the bounds where the part is not.
func Part(share int64, of int64) int64 {
	if share < 0 || of < 0 {
		return 0
	}
	high, low := bits.Mul64(uint64(share), uint64(of))
	// Div64 panics unless its divisor is greater than the high word; such a quotient has more than 64 bits.
	if high >= api.Whole {
		return math.MaxInt64
	}
	part, _ := bits.Div64(high, low, api.Whole)
	return int64(min(part, math.MaxInt64))
}

// Clamp holds to the least bound last, so that it wins where the bounds contradict each other.
func Clamp(n int64, least int64, most int64) int64 {
	return max(min(n, most), least)
}
