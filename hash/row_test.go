package hash

import (
	"crypto/sha256"
	"encoding"
	"encoding/binary"
	"testing"

	"corsned/api"
)

// What is laid in pieces is as what is laid at once, however it is cut.
func TestPiecesAreAsTheWhole(t *testing.T) {
	b := some(300)
	want := Sum(b)
	for first := range len(b) {
		for second := first; second <= len(b); second += 13 {
			r := begin()
			for _, piece := range [][]byte{b[:first], b[first:second], nil, b[second:]} {
				r.lay(piece)
			}
			if got := r.end(); got != want {
				t.Fatalf("cut at %d and %d: %x", first, second, got)
			}
		}
	}
	for step := 1; step <= 130; step++ {
		r := begin()
		for at := 0; at < len(b); at += step {
			r.lay(b[at:min(at+step, len(b))])
		}
		if got := r.end(); got != want {
			t.Fatalf("in pieces of %d: %x", step, got)
		}
	}
}

// after tells the sum of which the library goes on behind whole blocks, of which there were so many bytes, with more bytes.
func after(t *testing.T, words [8]uint32, size uint64, more []byte) api.Hash {
	t.Helper()
	state := []byte("sha\x03")
	for _, word := range words {
		state = binary.BigEndian.AppendUint32(state, word)
	}
	state = append(state, make([]byte, blockLen)...)
	state = binary.BigEndian.AppendUint64(state, size)
	sum := sha256.New()
	if err := sum.(encoding.BinaryUnmarshaler).UnmarshalBinary(state); err != nil {
		t.Fatal(err)
	}
	sum.Write(more)
	return api.Hash(sum.Sum(nil))
}

// How many bits there were has 64 digits in base 2: rows as long as the limits let them be are summed right.
func TestSumsOfLongRows(t *testing.T) {
	for _, size := range []uint64{0, 1 << 13, 1<<21 - 64, 1 << 21, 1<<28 - 64, 1 << 28, 1<<29 - 64, 1 << 29, 1 << 30, 1<<31 - 64, 1 << 31, 1<<32 - 64, 1 << 32, 1 << 40} {
		for _, more := range []int{0, 1, 55, 56, 63, 64, 65, 200} {
			r := begin()
			r.words[3]++
			r.size = size
			words := r.words
			r.lay(some(more))
			if got, want := r.end(), after(t, words, size, some(more)); got != want {
				t.Errorf("behind %d bytes, %d more: %x, not %x", size, more, got, want)
			}
		}
	}
}
