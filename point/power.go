package point

import (
	"math/bits"

	"corsned/api"
)

// taken tells as what a point is taken: the null point, if it is not right.
func taken(p api.Point) api.Point {
	if !Right(p) {
		return null
	}
	return p
}

// count tells how many of a point a scalar stands for.
func count(k api.Scalar) uint64 {
	return uint64(k % api.Order)
}

// product tells the product modulo Modulus. Two points have 62 bits each, so theirs has no room in 64.
func product(p, q api.Point) api.Point {
	high, low := bits.Mul64(uint64(p), uint64(q))
	return api.Point(bits.Rem64(high, low, api.Modulus))
}

// power tells p to the power of n: n of p, if p is right.
func power(p api.Point, n uint64) api.Point {
	whole := api.Point(null)
	for ; n > 0; n /= 2 {
		if n%2 == 1 {
			whole = product(whole, p)
		}
		p = product(p, p)
	}
	return whole
}
