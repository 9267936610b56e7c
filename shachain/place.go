package shachain

import (
	"math/bits"

	"corsned/api"
	"corsned/hash"
)

// top is the height of place 0, from which one comes to all places.
const top = 20

// placeOf tells the place of a number.
func placeOf(no int) int {
	return api.MaxNo - 1 - no
}

// heightOf tells how many binary noughts stand at the end of a place.
func heightOf(place int) int {
	return min(bits.TrailingZeros(uint(place)), top)
}

// placed is a secret of a place.
type placed struct {
	place  int
	secret api.Hash
}

// to tells the secret to which one comes at a place, and whether one comes there.
func (from placed) to(place int) (api.Hash, bool) {
	height := heightOf(from.place)
	if place>>height != from.place>>height {
		return api.Hash{}, false
	}
	secret := from.secret
	for passed := range height {
		digit := height - 1 - passed
		if place>>digit&1 == 1 {
			secret[digit/8] ^= 1 << (digit % 8)
			secret = hash.Sum(secret[:])
		}
	}
	return secret, true
}
