package seal

import (
	"crypto/sha256"
	"encoding/binary"
	"encoding/hex"
	"math/rand"
	"testing"

	"corsned/api"
)

// limit is the document's number above which bytes are long.
const limit = 65536

// read tells the bytes of digits in base 16.
func read(t *testing.T, s string) []byte {
	t.Helper()
	b, err := hex.DecodeString(s)
	if err != nil {
		t.Fatalf("%q is no bytes", s)
	}
	return b
}

// some tells so many bytes of no rule, always the same ones of a size.
func some(size int) []byte {
	b := make([]byte, size)
	rand.New(rand.NewSource(int64(size))).Read(b)
	return b
}

// keyOf tells one of many keys of no rule.
func keyOf(n int) api.Hash {
	return sha256.Sum256(binary.BigEndian.AppendUint64([]byte("key"), uint64(n)))
}

// rising is the key whose bytes are 0, 1, 2, and so on.
func rising() api.Hash {
	var key api.Hash
	for i := range key {
		key[i] = byte(i)
	}
	return key
}

// full is the key whose bits are all 1.
func full() api.Hash {
	var key api.Hash
	for i := range key {
		key[i] = 0xff
	}
	return key
}

// keys are the plainest ones, ones of one byte, and some of no rule.
func keys() []api.Hash {
	return []api.Hash{{}, {0: 1}, {31: 1}, {0: 0x80}, rising(), full(), keyOf(1), keyOf(2)}
}

// sizes are numbers of bytes around those at which a sum of the row, or what may be hidden, ends.
func sizes() []int {
	return []int{0, 1, 2, 7, 8, 9, 15, 16, 31, 32, 33, 63, 64, 65, 95, 96, 97, 1000, 8191, 8192, 8193, limit - 33, limit - 32, limit - 31, limit - 1, limit}
}

// summed tells a sum as hash.Tag's promise says, made without the project.
func summed(name string, parts ...[]byte) [32]byte {
	b := binary.BigEndian.AppendUint64(nil, uint64(len(name)))
	b = append(b, name...)
	for _, part := range parts {
		b = binary.BigEndian.AppendUint64(b, uint64(len(part)))
		b = append(b, part...)
	}
	return sha256.Sum256(b)
}

// streamed tells the first bytes of a key's row, of however many.
func streamed(key api.Hash, n int) []byte {
	b := []byte{}
	for i := 0; len(b) < n; i++ {
		sum := summed("stream", key[:], binary.BigEndian.AppendUint64(nil, uint64(i)))
		b = append(b, sum[:]...)
	}
	return b[:n]
}

// hiddenOf tells bytes with a key's row put over them, however many they are.
func hiddenOf(key api.Hash, plain []byte) []byte {
	b := streamed(key, len(plain))
	for i := range b {
		b[i] = (b[i] | plain[i]) &^ (b[i] & plain[i])
	}
	return b
}

// marked tells hidden bytes with their tag behind them.
func marked(key api.Hash, hidden []byte) []byte {
	sum := summed("seal", key[:], hidden)
	return append(append([]byte{}, hidden...), sum[:8]...)
}

// sealedOf tells the seal of bytes, however many they are.
func sealedOf(key api.Hash, plain []byte) []byte {
	return marked(key, hiddenOf(key, plain))
}
