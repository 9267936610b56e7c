package keys

import (
	"corsned/api"
	"corsned/field"
	"corsned/hash"
)

// ofSeed tells the sum of a seed that a place of the kit comes of.
func ofSeed(seed api.Hash, place int) api.Hash {
	return hash.Tag("kit", seed[:], []byte{byte(place)})
}

// factor tells the factor of a name and points.
func factor(name string, points ...api.Point) api.Scalar {
	parts := make([][]byte, len(points))
	for i, p := range points {
		parts[i] = eight(p)
	}
	return field.From(hash.Tag(name, parts...))
}

// shares tells how many of base and of per there are in what revokes.
func shares(base, per api.Point) (ofBase, ofPer api.Scalar) {
	// Each is bound to both points, so who chooses one of them can't make it take the other one out.
	return factor("revoke", base, per), factor("revoke", per, base)
}

// eight tells a point's eight bytes, the high one first.
func eight(p api.Point) []byte {
	b := make([]byte, 8)
	for i := range b {
		b[i] = byte(p >> (56 - 8*i))
	}
	return b
}
