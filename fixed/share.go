package fixed

import (
	"cmp"
	"math/bits"
	"slices"

	"purfling/api"
)

const (
	mostTotal  = 1<<60 - 1
	mostWeight = 1<<50 - 1
)

// Share hands what is left by rounding down to those that lost most by it, so that the shares add up to the total.
func Share(total int64, weights []int64) ([]int64, api.Errno) {
	if !shareable(total, len(weights)) {
		return nil, api.ErrShare
	}
	counted, sum, right := weigh(weights)
	if !right {
		return nil, api.ErrShare
	}
	shares, rests := divide(total, counted, sum)
	left := Sub(total, Add(shares...))
	for _, i := range greatestFirst(rests)[:left] {
		shares[i]++
	}
	return shares, api.OK
}

// Even sorts nothing: all lose alike by rounding down, so the first ones get what is left.
func Even(total int64, n int) ([]int64, api.Errno) {
	if !shareable(total, n) {
		return nil, api.ErrShare
	}
	each, left := total/int64(n), total%int64(n)
	shares := make([]int64, n)
	for i := range shares {
		shares[i] = each
		if int64(i) < left {
			shares[i]++
		}
	}
	return shares, api.OK
}

func shareable(total int64, n int) bool {
	return total >= 0 && total <= mostTotal && n >= 1 && n <= api.MaxBands
}

// weigh returns the weights that count and their sum, and whether all are in range. If all are 0, each counts 1 instead, and the sum is restarted; as there must be at least one, it is not 0 again.
// The sum is unsigned, for MaxBands of the greatest weights add up to more than an int64 holds.
func weigh(weights []int64) ([]int64, uint64, bool) {
	counted, right := weights, true
anew:
	var sum uint64
visit:
	for _, w := range slices.All(counted) {
		switch {
		case w < 0, w > mostWeight:
			right = false
			break visit
		default:
			sum += uint64(w)
		}
	}
	if !right {
		return nil, 0, false
	}
	if sum == 0 {
		counted = slices.Repeat([]int64{1}, len(weights))
		goto anew
	}
	return counted, sum, true
}

// divide keeps the remainders beside the shares, for they say who gets what is left. No weight is greater than the sum, so each quotient is at most the total, and Div64 has room for it.
func divide(total int64, weights []int64, sum uint64) ([]int64, []uint64) {
	shares := make([]int64, len(weights))
	rests := make([]uint64, len(weights))
	for i, w := range slices.All(weights) {
		high, low := bits.Mul64(uint64(total), uint64(w))
		share, rest := bits.Div64(high, low, sum)
		shares[i], rests[i] = int64(share), rest
	}
	return shares, rests
}

// greatestFirst sorts indexes stably, for among equal remainders the first one gets its unit first.
func greatestFirst(rests []uint64) []int {
	order := make([]int, len(rests))
	for i := range order {
		order[i] = i
	}
	slices.SortStableFunc(order, func(a int, b int) int {
		return cmp.Compare(rests[b], rests[a])
	})
	return order
}
