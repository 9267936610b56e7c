package shachain

import (
	"bytes"
	"crypto/sha256"
	"encoding/binary"
	"encoding/hex"
	"maps"
	"math"
	"slices"
	"testing"

	"corsned/api"
)

// all is how many numbers there are.
const all = 1 << 20

// read tells the bytes of digits in base 16.
func read(t *testing.T, s string) []byte {
	t.Helper()
	b, err := hex.DecodeString(s)
	if err != nil {
		t.Fatalf("%q is no bytes", s)
	}
	return b
}

// sumOf tells one of many sums of no rule.
func sumOf(n int) api.Hash {
	return sha256.Sum256(binary.BigEndian.AppendUint64([]byte("sum"), uint64(n)))
}

// rising is the sum whose bytes are 0, 1, 2, and so on.
func rising() api.Hash {
	var h api.Hash
	for i := range h {
		h[i] = byte(i)
	}
	return h
}

// each is the sum of which all bytes are the same.
func each(c byte) api.Hash {
	return api.Hash(bytes.Repeat([]byte{c}, 32))
}

// seeds are the plainest ones, ones of one bit, and some of no rule.
func seeds() []api.Hash {
	return []api.Hash{{}, {0: 1}, {2: 8}, {31: 128}, rising(), each(1), each(255), sumOf(1), sumOf(2)}
}

// wrongNos are numbers that no secret has.
func wrongNos() []int {
	return []int{-1, -2, -7, -all, -all - 1, 1 - all, all, all + 1, 2*all - 1, 2 * all, 1 << 31, 1 << 32, 1<<32 + 3, -1 << 31, -1 << 32, math.MaxInt, math.MaxInt - 1, math.MaxInt - all, math.MinInt, math.MinInt + 1, math.MinInt + all - 1, math.MinInt + all}
}

// turned tells a sum of which the bit of 2^k is another one.
func turned(h api.Hash, k int) api.Hash {
	h[k/8] = (h[k/8] | 1<<(k%8)) &^ (h[k/8] & (1 << (k % 8)))
	return h
}

// heightAt tells a place's height, digit by digit.
func heightAt(place int) int {
	for h := range 20 {
		if place%(2<<h) != 0 {
			return h
		}
	}
	return 20
}

// come tells to what one comes at place q from a secret of place p, and whether one does: at each digit, by a step to the place that has it, too.
func come(p int, secret api.Hash, q int) (api.Hash, bool) {
	h := heightAt(p)
	if q < p || q > p+1<<h-1 {
		return api.Hash{}, false
	}
	for h--; h >= 0; h-- {
		if q >= p+1<<h {
			p += 1 << h
			other := turned(secret, h)
			secret = sha256.Sum256(other[:])
		}
	}
	return secret, true
}

// secretOf tells the secret of a number, which has to be one.
func secretOf(seed api.Hash, no int) api.Hash {
	secret, ok := come(0, seed, all-1-no)
	if !ok {
		panic("no number")
	}
	return secret
}

// A model is a store that is made without the package: it has the number and the secret of each height.
type model struct {
	next int
	nos  map[int]int
	kept map[int]api.Hash
}

func modelOf() *model {
	return &model{nos: map[int]int{}, kept: map[int]api.Hash{}}
}

func (m *model) add(no int, secret api.Hash) api.Errno {
	if no != m.next || no >= all {
		return api.ErrArg
	}
	place := all - 1 - no
	height := heightAt(place)
	for h, kept := range m.kept {
		if got, ok := come(place, secret, all-1-m.nos[h]); h < height && (!ok || got != kept) {
			return api.ErrProof
		}
	}
	m.next++
	m.nos[height], m.kept[height] = no, secret
	return api.OK
}

func (m *model) get(no int) (api.Hash, bool) {
	if no < 0 || no >= m.next {
		return api.Hash{}, false
	}
	for _, h := range slices.Sorted(maps.Keys(m.kept)) {
		if got, ok := come(all-1-m.nos[h], m.kept[h], all-1-no); ok {
			return got, true
		}
	}
	panic("a number that was added is not there")
}

func (m *model) bytes() []byte {
	b := binary.AppendUvarint(nil, uint64(m.next))
	for _, h := range slices.Sorted(maps.Keys(m.kept)) {
		kept := m.kept[h]
		b = append(b, kept[:]...)
	}
	return b
}

// bytesOf tells the bytes of the store of a seed's first n secrets: of each height that of the last number whose place has it.
func bytesOf(seed api.Hash, n int) []byte {
	b := binary.AppendUvarint(nil, uint64(n))
	for h := range 21 {
		for no := n - 1; no >= 0 && no >= n-2<<h; no-- {
			if heightAt(all-1-no) == h {
				secret := secretOf(seed, no)
				b = append(b, secret[:]...)
				break
			}
		}
	}
	return b
}

// rowOf tells n secrets that may be added in order, of as many seeds as they can have: one for each digit of n that is 1.
func rowOf(n, rule int) []api.Hash {
	row := []api.Hash{}
	for digit := 20; digit >= 0; digit-- {
		size := 1 << digit
		if n&size == 0 {
			continue
		}
		root := all - len(row) - size
		for place := root + size - 1; place >= root; place-- {
			secret, ok := come(root, sumOf(rule+digit), place)
			if !ok {
				panic("no place of this root")
			}
			row = append(row, secret)
		}
	}
	return row
}

// added adds secrets in order to a new store and to a model, and holds each answer.
func added(t *testing.T, row []api.Hash) (*Store, *model) {
	t.Helper()
	s, m := New(), modelOf()
	for no, secret := range row {
		if got, want := s.Add(no, secret), m.add(no, secret); got != want || got != api.OK {
			t.Fatalf("Add(%d) of %d = %d, not %d", no, len(row), got, want)
		}
	}
	same(t, s, m)
	return s, m
}

// readOf tells the store of bytes, which have to be one's.
func readOf(t *testing.T, b []byte) *Store {
	t.Helper()
	s, ok := Read(b)
	if !ok || s == nil {
		t.Fatalf("Read(%.40x..) of %d bytes tells none", b, len(b))
	}
	if !bytes.Equal(s.Bytes(), b) {
		t.Fatalf("Read(%.40x..) of %d bytes has others", b, len(b))
	}
	return s
}

// unread holds that there is no store of bytes.
func unread(t *testing.T, what string, b []byte) {
	t.Helper()
	if s, ok := Read(b); ok || s != nil {
		t.Errorf("%s: Read(%.40x..) of %d bytes = %v, %t", what, b, len(b), s, ok)
	}
}

// same holds that a store is as a model.
func same(t *testing.T, s *Store, m *model) {
	t.Helper()
	if s.Next() != m.next || s.Size() != len(m.kept) || !bytes.Equal(s.Bytes(), m.bytes()) {
		t.Fatalf("a store of %d, %d kept, %x; not %d, %d, %x", s.Next(), s.Size(), s.Bytes(), m.next, len(m.kept), m.bytes())
	}
}

// asTold holds what a store tells of a number.
func asTold(t *testing.T, s *Store, no int, want api.Hash, there bool) {
	t.Helper()
	if got, ok := s.Get(no); got != want || ok != there {
		t.Fatalf("Get(%d) of %d = %x, %t, not %x, %t", no, s.Next(), got, ok, want, there)
	}
}
