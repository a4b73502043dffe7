// Package money is layer 1: see shared/doc/01-money.md.
package money

import (
	"iter"
	"math/bits"
	"slices"

	"saleroom/api"
)

// most is how far a sum may lie from 0, on either side: far enough for 128 of
// the greatest amounts, and so near that two sums never go round an int64.
const most = 1 << 47

// Right tells whether a number is an amount.
func Right(n int64) bool { return n >= 0 && n <= api.MaxMoney }

// Add is a sum.
func Add(a, b int64) (int64, bool) {
	// a + b is reckoned only behind both checks: of other numbers it might go round.
	if !isSum(a) || !isSum(b) || !isSum(a+b) {
		return 0, false
	}
	return a + b, true
}

// Sub is a difference.
func Sub(a, b int64) (int64, bool) {
	// Sums lie evenly about 0, and the one number that is its own negative,
	// 0 apart, is no sum: so -b is a sum just where b is.
	return Add(a, -b)
}

// Mul is a product.
func Mul(a int64, n int) (int64, bool) {
	// All 128 bits of the product: n may be any number, so 64 could go round.
	high, low := bits.Mul64(size(a), size(int64(n)))
	if !isSum(a) || high != 0 || low > most {
		return 0, false
	}
	return a * int64(n), true
}

// Ceil is how many times b there must be to be a or more.
func Ceil(a, b int64) int64 {
	a, b = max(a, 0), max(b, 1)
	times := a / b
	if a%b != 0 {
		times++
	}
	return times
}

// Floor is how many times b there can be in a.
func Floor(a, b int64) int64 { return max(a, 0) / max(b, 1) }

// Sum is all that comes, added up.
func Sum(seq iter.Seq[int64]) (int64, bool) {
	var total int64
	for n := range seq {
		next, ok := Add(total, n)
		if !ok {
			return 0, false
		}
		total = next
	}
	return total, true
}

// Total is all of some numbers, added up.
func Total(ns ...int64) (int64, bool) { return Sum(slices.Values(ns)) }

// Clamp is the amount next to a number.
func Clamp(n int64) int64 { return min(max(n, 0), api.MaxMoney) }

func isSum(n int64) bool { return n >= -most && n <= most }

// size is how far a number lies from 0; unsigned, as that of the least int64 is no int64.
func size(n int64) uint64 {
	if n < 0 {
		return -uint64(n)
	}
	return uint64(n)
}
