package code

import (
	"slices"

	"corsned/api"
)

// Reader reads what was laid.
type Reader struct {
	rest   []byte
	failed bool
}

// Open is a reader of bytes.
func Open(b []byte) *Reader {
	return &Reader{rest: slices.Clone(b)}
}

// Num reads the number whose row stands next.
func (r *Reader) Num() (n int) {
	r.take(func(next []byte) (size int) {
		n, size = rowNext(next)
		return size
	})
	return n
}

// U64 reads the number whose eight bytes stand next.
func (r *Reader) U64() (n uint64) {
	r.take(func(next []byte) (size int) {
		n, size = eightNext(next)
		return size
	})
	return n
}

// Bytes reads the bytes that stand next, how many there are ahead of them.
func (r *Reader) Bytes() (b []byte) {
	r.take(func(next []byte) int {
		count, size := rowNext(next)
		if size == 0 || count > len(next)-size {
			return 0
		}
		b = slices.Clone(next[size : size+count])
		return size + count
	})
	return b
}

// Hash reads the sum that stands next.
func (r *Reader) Hash() (h api.Hash) {
	r.take(func(next []byte) int {
		if len(next) < len(h) {
			return 0
		}
		return copy(h[:], next)
	})
	return h
}

// Left tells how many bytes are left.
func (r *Reader) Left() int {
	return len(r.rest)
}

// Ok tells whether the reader has not failed.
func (r *Reader) Ok() bool {
	return !r.failed
}

// take takes away the part that stands next: read reads it, and tells how many bytes it has, 0 if there is no such part.
func (r *Reader) take(read func(next []byte) (size int)) {
	size := read(r.rest)
	if size == 0 {
		// One that failed finds nothing left, and no part has no bytes: so it fails ever after.
		r.rest, r.failed = nil, true
		return
	}
	r.rest = r.rest[size:]
}
