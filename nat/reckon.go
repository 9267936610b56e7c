package nat

import "math/bits"

// Add tells the sum.
func Add(a, b []uint32) []uint32 {
	a, b = counted(a), counted(b)
	if len(a) < len(b) {
		a, b = b, a
	}
	sum := make([]uint32, len(a)+1)
	copy(sum, a)
	addTimes(sum, b, 1)
	return trim(sum)
}

// Sub tells what is left of a when b is taken away, if there is as much.
func Sub(a, b []uint32) ([]uint32, bool) {
	if Cmp(a, b) < 0 {
		return nil, false
	}
	left := copied(counted(a))
	takeTimes(left, counted(b), 1)
	return trim(left), true
}

// Mul tells the product.
func Mul(a, b []uint32) []uint32 {
	a, b = counted(a), counted(b)
	product := make([]uint32, len(a)+len(b))
	for i, digit := range b {
		addTimes(product[i:], a, digit)
	}
	return trim(product)
}

// DivMod tells how many times b is in a, and what is left, if b is not 0.
func DivMod(a, b []uint32) ([]uint32, []uint32, bool) {
	a, b = counted(a), counted(b)
	if len(b) == 0 {
		return nil, nil, false
	}
	if len(a) < len(b) {
		return nil, copied(a), true
	}
	// Of both, made so many times greater, the quotient is the same, and the divisor's top bit is set, by which first guesses are near.
	scale := uint32(1) << bits.LeadingZeros32(b[len(b)-1])
	divisor := make([]uint32, len(b))
	addTimes(divisor, b, scale)
	rest := make([]uint32, len(a)+1)
	addTimes(rest, a, scale)
	quotient := takeOften(rest, divisor)
	rest = rest[:len(b)]
	divide(rest, scale)
	return trim(quotient), trim(rest), true
}

// takeOften takes the divisor, whose top bit is set, away from rest as often as it is there, and tells how often; the top digit of rest is below that of the divisor.
func takeOften(rest, divisor []uint32) []uint32 {
	size := len(divisor)
	top := uint64(divisor[size-1])
	digit := func(at int) uint32 {
		part := rest[at : at+size+1]
		high := uint64(part[size])<<32 | uint64(part[size-1])
		guess := uint32(min(high/top, 1<<32-1))
		short := takeTimes(part, divisor, guess)
		// A guess is never too small, and at most 2 too great.
		for range 2 {
			if !short {
				break
			}
			guess--
			short = !addTimes(part, divisor, 1)
		}
		return guess
	}
	count := len(rest) - size
	quotient := make([]uint32, count)
	for i := range count {
		at := count - 1 - i
		quotient[at] = digit(at)
	}
	return quotient
}

// Gcd tells the greatest natural that divides both.
func Gcd(a, b []uint32) []uint32 {
	a, b = counted(a), counted(b)
	for len(b) > 0 {
		n, small := word(a)
		m, also := word(b)
		if small && also {
			// Most are as small: no digits need to be made for what is left again and again.
			return Of(gcd(n, m))
		}
		_, rest, _ := DivMod(a, b)
		a, b = b, rest
	}
	return copied(a)
}

// gcd tells the greatest number that divides both.
func gcd(n, m uint64) uint64 {
	for m > 0 {
		n, m = m, n%m
	}
	return n
}
