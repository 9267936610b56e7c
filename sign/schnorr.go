package sign

import (
	"corsned/api"
	"corsned/field"
	"corsned/hash"
	"corsned/point"
)

// isKey tells whether a scalar is a key.
func isKey(k api.Scalar) bool {
	return k != 0 && field.Right(k)
}

// eight tells a number's eight bytes, the high one first.
func eight[N api.Point | api.Scalar](n N) []byte {
	b := make([]byte, 8)
	for i := range b {
		b[i] = byte(n >> (56 - 8*i))
	}
	return b
}

// number tells the scalar that comes of a name and parts.
func number(name string, parts ...[]byte) api.Scalar {
	return field.From(hash.Tag(name, parts...))
}

// challenge tells how many of p a signature of m by R r is held against.
func challenge(r, p api.Point, m api.Hash) api.Scalar {
	return number("sig", eight(r), eight(p), m[:])
}

// signed tells the signature of m by the key k and the nonce n that lacks the secret of t.
func signed(k api.Scalar, m api.Hash, t api.Point, n api.Scalar) api.Sig {
	r := point.Add(point.Base(n), t)
	return api.Sig{R: r, S: field.Add(n, field.Mul(k, challenge(r, point.Base(k), m)))}
}

// holds tells whether a signature of m holds for p, but for the secret of t, which is right.
func holds(p api.Point, m api.Hash, t api.Point, s api.Sig) bool {
	// What is not right is taken as something else by the lower layers, so it has to be held back here, or differ.
	return p != null && point.Right(p) && s == solved(p, t, s.S, challenge(s.R, p, m))
}

// solved tells the one signature with S s that holds for p, but for the secret of t, if c is its challenge. Both its numbers are right.
func solved(p, t api.Point, s, c api.Scalar) api.Sig {
	s = field.Add(s, 0)
	return api.Sig{R: point.Sub(point.Add(point.Base(s), t), point.Scale(p, c)), S: s}
}
