package seal

import (
	"corsned/api"
	"corsned/hash"
)

// sums tells what tells the sums of a key's row, the next one at each call.
func sums(key api.Hash) func() api.Hash {
	count := uint64(0)
	return func() api.Hash {
		place := eight(count)
		count++
		return hash.Tag("stream", key[:], place[:])
	}
}

// eight tells a number's eight bytes, the high one first.
func eight(n uint64) [8]byte {
	var b [8]byte
	for i := range b {
		b[i] = byte(n >> (56 - 8*i))
	}
	return b
}

// over tells bytes with as many others put over them, in new memory: with the same ones again, it is those that were.
func over(b, others []byte) []byte {
	both := make([]byte, len(b))
	for i := range both {
		both[i] = b[i] ^ others[i]
	}
	return both
}

// tag tells the bytes by which it is seen that what is hidden was hidden by a key.
func tag(key api.Hash, hidden []byte) [tagLen]byte {
	sum := hash.Tag("seal", key[:], hidden)
	return [tagLen]byte(sum[:tagLen])
}
