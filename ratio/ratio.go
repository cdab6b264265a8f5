// Package ratio is layer 1, parts of things: see shared/doc/01-ratio.md.
package ratio

import (
	"math"
	"slices"
	"strconv"
)

// The kinds of floats, in the order in which numbers stand: of two kinds all of
// the one stand ahead of all of the other.
const (
	lowest = iota
	negative
	minusZero
	zero
	positive
	highest
	none
)

// Part tells which part of b a is, as floats divide: also by 0.
func Part(a, b int) float64 {
	return float64(a) / float64(b)
}

// Text tells x in thousandths, or by a word if it is none, infinite or big.
func Text(x float64) string {
	switch kind(x) {
	case none:
		return "nan"
	case highest:
		return "inf"
	case lowest:
		return "-inf"
	}
	switch {
	case x >= 1000000:
		return "big"
	case x <= -1000000:
		return "-big"
	}
	return sign(x) + dotted(thousandths(x))
}

// Less tells whether a stands ahead of b.
func Less(a, b float64) bool {
	ka, kb := kind(a), kind(b)
	if ka != kb {
		return ka < kb
	}
	return a < b
}

// Same tells whether neither of a and b stands ahead of the other.
func Same(a, b float64) bool {
	return !Less(a, b) && !Less(b, a)
}

// Greatest tells the last one of l that is a number; NaN, if there is none.
func Greatest(l []float64) float64 {
	g := math.NaN()
	for _, x := range l {
		if kind(x) != none && (kind(g) == none || Less(g, x)) {
			g = x
		}
	}
	return g
}

// Order tells the places of l as what stands there is ordered.
func Order(l []float64) []int {
	places := make([]int, len(l))
	for i := range places {
		places[i] = i
	}
	slices.SortStableFunc(places, func(i, j int) int {
		switch {
		case Less(l[i], l[j]):
			return -1
		case Less(l[j], l[i]):
			return 1
		}
		return 0
	})
	return places
}

func kind(x float64) int {
	switch {
	case math.IsNaN(x):
		return none
	case math.IsInf(x, -1):
		return lowest
	case math.IsInf(x, 1):
		return highest
	case x < 0:
		return negative
	case x > 0:
		return positive
	case math.Signbit(x):
		return minusZero
	}
	return zero
}

func sign(x float64) string {
	if Less(x, 0) {
		return "-"
	}
	return ""
}

// thousandths tells how many thousandths x is, without a minus.
func thousandths(x float64) int {
	// Without the conversions the two steps might be done in one, with one rounding.
	y := float64(x * 1000)
	n := math.Floor(float64(y + 0.5))
	return int(math.Abs(n))
}

// dotted tells n in at least four digits, with a dot ahead of the last three.
func dotted(n int) string {
	s := strconv.Itoa(n)
	for len(s) < 4 {
		s = "0" + s
	}
	return s[:len(s)-3] + "." + s[len(s)-3:]
}
