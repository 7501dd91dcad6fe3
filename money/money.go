// Package money is layer 1: see shared/doc/01-money.md.
package money

import (
	"cmp"
	"math/bits"
	"slices"

	"souk/api"
)

// Mode is how a quotient is rounded.
type Mode int

// The modes.
const (
	Down Mode = iota // to what is less
	Up               // to what is more
	Near             // to the nearer one; of two that are as near the even one
)

// greatestSize is that of the least amount; without its sign it fits a uint64 only.
const greatestSize = 1 << 63

// Add is a sum.
func Add(l ...int64) (int64, api.Errno) {
	var sum int64
	for _, n := range l {
		next := sum + n
		// A sum that ran over has wrapped round to the wrong side of the one ahead.
		if (next > sum) != (n > 0) {
			return 0, api.ErrOver
		}
		sum = next
	}
	return sum, api.OK
}

// Sub is a difference.
func Sub(a, b int64) (int64, api.Errno) {
	d := a - b
	// As in Add; the least amount has no opposite, so this is not Add of a and -b.
	if (d < a) != (b > 0) {
		return 0, api.ErrOver
	}
	return d, api.OK
}

// MulDiv is a times b, divided by c, rounded.
func MulDiv(a, b, c int64, m Mode) (int64, api.Errno) {
	if c < 1 || m < Down || m > Near {
		return 0, api.ErrArg
	}
	below := (a < 0) != (b < 0)
	q, r, e := divide(size(a), size(b), uint64(c))
	if e != api.OK {
		return 0, e
	}
	if awayFromZero(q, r, uint64(c), below, m) {
		q++
	}
	return withSign(q, below)
}

// Split is an amount in parts, by weights: each rounded down, and one more for those of which most is left.
func Split(total int64, weights ...int64) ([]int64, api.Errno) {
	if total < 0 || slices.ContainsFunc(weights, func(w int64) bool { return w < 0 }) {
		return nil, api.ErrArg
	}
	sum, e := Add(weights...)
	if e != api.OK {
		return nil, e
	}
	if sum == 0 {
		return nil, api.ErrArg
	}
	parts := make([]int64, len(weights))
	taken := make([]uint64, len(weights))
	left := total
	for i, w := range weights {
		// No part is above total, since no weight is above their sum: this can't run over.
		q, r, _ := divide(uint64(total), uint64(w), uint64(sum))
		parts[i], taken[i] = int64(q), r
		left -= int64(q)
	}
	// What is left is all that was taken, divided by sum, and of each part less than sum was
	// taken: so it reaches only parts of which something was.
	for _, i := range mostFirst(taken)[:left] {
		parts[i]++
	}
	return parts, api.OK
}

// size is an amount without its sign.
func size(n int64) uint64 {
	if n < 0 {
		return -uint64(n)
	}
	return uint64(n)
}

// withSign is the amount of size n, below 0 or not.
func withSign(n uint64, below bool) (int64, api.Errno) {
	if below && n <= greatestSize {
		return int64(-n), api.OK
	}
	if !below && n < greatestSize {
		return int64(n), api.OK
	}
	return 0, api.ErrOver
}

// divide is a times b, divided by c, and what remains. A quotient above greatestSize is
// refused here, since rounding could wrap the greatest one round to 0.
func divide(a, b, c uint64) (uint64, uint64, api.Errno) {
	high, low := bits.Mul64(a, b)
	// Div64 panics at a quotient that has more than 64 bits.
	if high >= c {
		return 0, 0, api.ErrOver
	}
	q, r := bits.Div64(high, low, c)
	if q > greatestSize {
		return 0, 0, api.ErrOver
	}
	return q, r, api.OK
}

// awayFromZero tells whether a quotient's size q, of which r of c remain, is rounded to the next greater size.
func awayFromZero(q, r, c uint64, below bool, m Mode) bool {
	if r == 0 {
		return false
	}
	switch m {
	case Down:
		return below
	case Up:
		return !below
	default:
		rest := c - r
		return r > rest || r == rest && q%2 == 1
	}
}

// mostFirst is the places of l's numbers, that of the greatest one first.
func mostFirst(l []uint64) []int {
	places := make([]int, len(l))
	for i := range places {
		places[i] = i
	}
	// Stable, since of those that are as much the first ones come first.
	slices.SortStableFunc(places, func(i, j int) int { return cmp.Compare(l[j], l[i]) })
	return places
}
