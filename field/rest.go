package field

import (
	"math/bits"

	"corsned/api"
)

// A rest is what is left of a number by Order. Order has 61 bits, so the sum of two rests has room in 64.
type rest uint64

// left tells what is left of a scalar.
func left(a api.Scalar) rest {
	return rest(a % api.Order)
}

// plus tells the sum.
func (a rest) plus(b rest) rest {
	return (a + b) % api.Order
}

// negated tells 0 less a.
func (a rest) negated() rest {
	return (api.Order - a) % api.Order
}

// times tells the product.
func (a rest) times(b rest) rest {
	high, low := bits.Mul64(uint64(a), uint64(b))
	return rest(bits.Rem64(high, low, api.Order))
}

// power tells 1, times a, n times over.
func power(a rest, n uint64) rest {
	times := rest.times
	product := rest(1)
	for ; n > 0; n /= 2 {
		if n%2 == 1 {
			product = times(product, a)
		}
		a = times(a, a)
	}
	return product
}
