// Package fix is layer 1: parts of a whole, in whole numbers. A part is a
// whole number of 2^-32; api.One is all of the CPU, and also one quantum.
package fix

import (
	"cmp"

	"dormouse/api"
)

// The greatest arguments that count: with them no product goes beyond 2^62,
// so that nothing wraps round in an int.
const (
	maxDividend = 1 << 29
	maxPart     = 1 << 34
	maxCount    = 1 << 27
	maxQuanta   = 1 << 30
)

// Util is c divided by t, as a part, rounded up; Never, if t is below 1.
func Util(c, t int) int {
	if t < 1 {
		return api.Never
	}
	parts := between(c, 0, maxDividend) * api.One
	part := parts / t
	// Adding t-1 ahead of the division would wrap round for a great t.
	if parts%t > 0 {
		part++
	}
	return part
}

// Times is u times n.
func Times(u, n int) int {
	return between(u, 0, maxPart) * between(n, 0, maxCount)
}

// Whole is n quanta as parts.
func Whole(n int) int {
	return between(n, -maxQuanta, maxQuanta) * api.One
}

// Floor is how many whole quanta x parts are, rounded down.
func Floor(x int) int {
	quanta := x / api.One
	// Go's division rounds towards 0: below 0 that is up.
	if x%api.One < 0 {
		quanta--
	}
	return quanta
}

// between is the number nearest to x that is from low to high.
func between[T cmp.Ordered](x, low, high T) T {
	return max(low, min(x, high))
}
