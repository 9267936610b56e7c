package hash

import (
	"math/bits"

	"corsned/api"
)

// blockLen is how many bytes are summed up at once.
const blockLen = 64

// A row is what is kept of bytes that were laid one behind the other, whose sum is looked for: nothing of whole blocks but the words.
type row struct {
	words [8]uint32
	rest  [blockLen]byte
	size  uint64
}

// begin tells a row in which nothing was laid. Its words are the square roots of the first 8 primes: 32 binary digits behind the point.
func begin() row {
	return row{words: [8]uint32{
		0x6a09e667, 0xbb67ae85, 0x3c6ef372, 0xa54ff53a, 0x510e527f, 0x9b05688c, 0x1f83d9ab, 0x5be0cd19,
	}}
}

// lay lays bytes.
func (r *row) lay(b []byte) {
	for len(b) > 0 {
		n := copy(r.rest[r.size%blockLen:], b)
		r.size += uint64(n)
		if r.size%blockLen == 0 {
			r.words = mixed(r.words, r.rest)
		}
		b = b[n:]
	}
}

// layNum lays a number as eight bytes.
func (r *row) layNum(n uint64) {
	var b [8]byte
	for i := range b {
		b[i] = byte(n >> (56 - 8*i))
	}
	r.lay(b[:])
}

// layCounted lays how many bytes there are, and them.
func (r *row) layCounted(b []byte) {
	r.layNum(uint64(len(b)))
	r.lay(b)
}

// end tells the sum of all that was laid.
func (r *row) end() api.Hash {
	size := 8 * r.size
	// A bit of 1 goes behind, and bits of 0, till there is just room for the size in the last block.
	fill := [blockLen]byte{0x80}
	r.lay(fill[:blockLen-(r.size+8)%blockLen])
	r.layNum(size)
	var h api.Hash
	for i := range h {
		h[i] = byte(r.words[i/4] >> (24 - 8*(i%4)))
	}
	return h
}

// roots are the cube roots of the first 64 primes: 32 binary digits behind the point.
var roots = [64]uint32{
	0x428a2f98, 0x71374491, 0xb5c0fbcf, 0xe9b5dba5, 0x3956c25b, 0x59f111f1, 0x923f82a4, 0xab1c5ed5,
	0xd807aa98, 0x12835b01, 0x243185be, 0x550c7dc3, 0x72be5d74, 0x80deb1fe, 0x9bdc06a7, 0xc19bf174,
	0xe49b69c1, 0xefbe4786, 0x0fc19dc6, 0x240ca1cc, 0x2de92c6f, 0x4a7484aa, 0x5cb0a9dc, 0x76f988da,
	0x983e5152, 0xa831c66d, 0xb00327c8, 0xbf597fc7, 0xc6e00bf3, 0xd5a79147, 0x06ca6351, 0x14292967,
	0x27b70a85, 0x2e1b2138, 0x4d2c6dfc, 0x53380d13, 0x650a7354, 0x766a0abb, 0x81c2c92e, 0x92722c85,
	0xa2bfe8a1, 0xa81a664b, 0xc24b8b70, 0xc76c51a3, 0xd192e819, 0xd6990624, 0xf40e3585, 0x106aa070,
	0x19a4c116, 0x1e376c08, 0x2748774c, 0x34b0bcb5, 0x391c0cb3, 0x4ed8aa4a, 0x5b9cca4f, 0x682e6ff3,
	0x748f82ee, 0x78a5636f, 0x84c87814, 0x8cc70208, 0x90befffa, 0xa4506ceb, 0xbef9a3f7, 0xc67178f2,
}

// mixed tells the words into which one block more is mixed.
func mixed(words [8]uint32, block [blockLen]byte) [8]uint32 {
	// The letters are those of FIPS 180-4.
	a, b, c, d := words[0], words[1], words[2], words[3]
	e, f, g, h := words[4], words[5], words[6], words[7]
	for i, word := range spread(block) {
		choice := e&f ^ ^e&g
		majority := a&b ^ a&c ^ b&c
		one := h + turned(e, 6, 11, 25) + choice + roots[i] + word
		two := turned(a, 2, 13, 22) + majority
		a, b, c, d, e, f, g, h = one+two, a, b, c, d+one, e, f, g
	}
	return [8]uint32{
		words[0] + a, words[1] + b, words[2] + c, words[3] + d,
		words[4] + e, words[5] + f, words[6] + g, words[7] + h,
	}
}

// spread tells a block's 16 words, and 48 that come of them.
func spread(block [blockLen]byte) [64]uint32 {
	var words [64]uint32
	for i, b := range block {
		words[i/4] = words[i/4]<<8 | uint32(b)
	}
	for i := 16; i < len(words); i++ {
		far, near := words[i-15], words[i-2]
		far = bits.RotateLeft32(far, -7) ^ bits.RotateLeft32(far, -18) ^ far>>3
		near = bits.RotateLeft32(near, -17) ^ bits.RotateLeft32(near, -19) ^ near>>10
		words[i] = words[i-16] + far + words[i-7] + near
	}
	return words
}

// turned tells a word, turned to the right by each of three counts, and put over one another.
func turned(word uint32, x, y, z int) uint32 {
	return bits.RotateLeft32(word, -x) ^ bits.RotateLeft32(word, -y) ^ bits.RotateLeft32(word, -z)
}
