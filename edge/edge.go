// Package edge: numbers with points, at their edges: see ../../shared/doc/01-edge.md.
package edge

import (
	"math"
	"slices"
)

// farthest: up to it, on both sides of nought, each whole number is a float64 of its own.
const farthest = 1 << 53

// Cmp tells where a stands in the order: ahead of b (-1), with b (0), behind b (1).
func Cmp(a, b float64) int {
	switch {
	case ahead(a, b):
		return -1
	case ahead(b, a):
		return 1
	}
	return 0
}

// ahead can't be left to < alone: that knows no place for what is no number, and takes both noughts for one.
func ahead(a, b float64) bool {
	switch {
	case math.IsNaN(a):
		return false
	case math.IsNaN(b):
		return true
	case a == 0 && b == 0:
		return math.Signbit(a) && !math.Signbit(b)
	}
	return a < b
}

// Same tells whether a and b have one place in the order.
func Same(a, b float64) bool {
	return Cmp(a, b) == 0
}

// Min tells the first of them in the order; of none, no number.
func Min(l ...float64) float64 {
	if len(l) == 0 {
		return math.NaN()
	}
	return slices.MinFunc(l, Cmp)
}

// Max tells the last of them in the order; of none, no number.
func Max(l ...float64) float64 {
	if len(l) == 0 {
		return math.NaN()
	}
	return slices.MaxFunc(l, Cmp)
}

// Clamp brings x to lo up to hi; where these are no such bounds, or x is no number, it tells lo.
func Clamp(x, lo, hi float64) float64 {
	switch {
	case math.IsNaN(x) || math.IsNaN(lo) || math.IsNaN(hi):
		return lo
	case ahead(hi, lo):
		return lo
	case ahead(x, lo):
		return lo
	case ahead(hi, x):
		return hi
	}
	return x
}

// Div tells a by b, unless b is a nought or the quotient is not finite.
func Div(a, b float64) (float64, bool) {
	q := a / b
	if b == 0 || math.IsNaN(q) || math.IsInf(q, 0) {
		return 0, false
	}
	return q, true
}

// Whole tells x as an int, if it is a whole number and no farther from nought than farthest.
func Whole(x float64) (int, bool) {
	// Asked this way round, since each comparison with no number is a no.
	near := -farthest <= x && x <= farthest
	if !near || x != math.Trunc(x) {
		return 0, false
	}
	return int(x), true
}

// Sort tells the same numbers in the order.
func Sort(l []float64) []float64 {
	// Not slices.Clone: of an empty list that would hand out the caller's own memory.
	sorted := make([]float64, len(l))
	copy(sorted, l)
	slices.SortFunc(sorted, Cmp)
	return sorted
}
