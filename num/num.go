// Package num is layer 1: coins and their texts: see shared/doc/01-num.md.
package num

import (
	"math/bits"

	"corsned/api"
)

// Add tells the sum of two amounts, if it is one.
func Add(a, b int) (int, bool) {
	if !coins(a) || !coins(b) || !coins(a+b) {
		return 0, false
	}
	return a + b, true
}

// Sub tells what is left of a when b is taken away, if there is as much.
func Sub(a, b int) (int, bool) {
	if !coins(a) || !coins(b) || !coins(a-b) {
		return 0, false
	}
	return a - b, true
}

// Part tells a times num, divided by den, rounded down.
func Part(a, num, den int) (int, bool) {
	part, _, ok := divide(a, num, den)
	return part, ok
}

// Up tells a times num, divided by den, rounded up.
func Up(a, num, den int) (int, bool) {
	part, whole, ok := divide(a, num, den)
	if !ok || whole {
		return part, ok
	}
	return Add(part, 1)
}

// coins tells whether n is an amount.
func coins(n int) bool {
	return n >= 0 && n <= api.MaxCoin
}

// divide tells a times num, divided by den, rounded down, if that is an amount, and whether nothing was left over.
func divide(a, num, den int) (part int, whole, ok bool) {
	if !coins(a) || num < 0 || den < 1 {
		return 0, false, false
	}
	high, low := bits.Mul64(uint64(a), uint64(num))
	// bits.Div64 panics where the quotient has more than 64 bits; no amount has as many.
	if high >= uint64(den) {
		return 0, false, false
	}
	quotient, rest := bits.Div64(high, low, uint64(den))
	if quotient > api.MaxCoin {
		return 0, false, false
	}
	return int(quotient), rest == 0, true
}
