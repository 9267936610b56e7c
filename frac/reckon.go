package frac

import (
	"corsned/api"
	"corsned/nat"
)

// mostPower is how often a fraction is multiplied by itself at most.
const mostPower = 64

// Cmp tells -1, 0 or 1, as a is less than b, the same, or greater.
func Cmp(a, b api.Frac) int {
	left, right, _ := likened(a, b)
	return nat.Cmp(left, right)
}

// Add tells the sum.
func Add(a, b api.Frac) api.Frac {
	left, right, den := likened(a, b)
	return lowest(nat.Add(left, right), den)
}

// Sub tells what is left of a when b is taken away, if there is as much.
func Sub(a, b api.Frac) (api.Frac, bool) {
	left, right, den := likened(a, b)
	less, ok := nat.Sub(left, right)
	if !ok {
		return nought(), false
	}
	return lowest(less, den), true
}

// Mul tells the product.
func Mul(a, b api.Frac) api.Frac {
	return product(counted(a), counted(b))
}

// Quo tells how many times b is in a, if b is not nought.
func Quo(a, b api.Frac) (api.Frac, bool) {
	b = counted(b)
	if len(b.Num) == 0 {
		return nought(), false
	}
	return product(counted(a), api.Frac{Num: b.Den, Den: b.Num}), true
}

// Floor tells the greatest natural that is not above a.
func Floor(a api.Frac) []uint32 {
	a = counted(a)
	floor, _, _ := nat.DivMod(a.Num, a.Den)
	return floor
}

// Pow tells the product of n of a, if n is from 0 to 64.
func Pow(a api.Frac, n int) (api.Frac, bool) {
	if n < 0 || n > mostPower {
		return nought(), false
	}
	a = counted(a)
	power := Whole(nat.Of(1))
	for range n {
		// Of naturals that have no divisor in common the powers have none, either.
		power.Num = nat.Mul(power.Num, a.Num)
		power.Den = nat.Mul(power.Den, a.Den)
	}
	return power, true
}

// likened tells how much each of two fractions is over one den.
func likened(a, b api.Frac) (left, right, den []uint32) {
	a, b = counted(a), counted(b)
	return nat.Mul(a.Num, b.Den), nat.Mul(b.Num, a.Den), nat.Mul(a.Den, b.Den)
}

// product tells the product of two that are right.
func product(a, b api.Frac) api.Frac {
	// Each is in its lowest terms, so a divisor in common is one of a's upper and b's lower natural, or of the other two.
	down, up := reducer(a.Num, b.Den), reducer(b.Num, a.Den)
	return api.Frac{
		Num: nat.Mul(down(a.Num), up(b.Num)),
		Den: nat.Mul(up(a.Den), down(b.Den)),
	}
}
