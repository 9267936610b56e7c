package hash

import (
	"bytes"
	"crypto/sha256"
	"slices"
	"strings"
	"sync"
	"testing"

	"corsned/api"
)

// roomy tells the same bytes with room for more behind them, in which there is something.
func roomy(b []byte) (part, all []byte) {
	all = append(slices.Clone(b), bytes.Repeat([]byte{0x55}, 100)...)
	return all[:len(b)], all
}

// spoil changes all bytes.
func spoil(b []byte) {
	for i := range b {
		b[i] ^= 0xff
	}
}

func TestSumChangesNothing(t *testing.T) {
	for _, size := range sizes() {
		b, all := roomy(some(size))
		was := slices.Clone(all)
		Sum(b)
		if !bytes.Equal(all, was) {
			t.Errorf("Sum of %d bytes changed them, or what is behind", size)
		}
	}
}

func TestTagChangesNothing(t *testing.T) {
	for _, first := range sizes() {
		for _, second := range sizes() {
			a, allA := roomy(some(first))
			b, allB := roomy(some(second))
			behind := []byte("behind")
			list := [][]byte{a, b, nil, {}, behind}
			wasA, wasB := slices.Clone(allA), slices.Clone(allB)
			name := strings.Repeat("n", first)
			Tag(name, list[:4]...)
			if !bytes.Equal(allA, wasA) || !bytes.Equal(allB, wasB) || name != strings.Repeat("n", first) {
				t.Errorf("Tag of %d and %d bytes changed them, or what is behind", first, second)
			}
			if len(list[0]) != first || len(list[1]) != second || list[2] != nil || list[3] == nil || len(list[3]) != 0 || string(list[4]) != "behind" {
				t.Errorf("Tag of %d and %d bytes changed the list", first, second)
			}
			if first > 0 && &list[0][0] != &a[0] || second > 0 && &list[1][0] != &b[0] {
				t.Errorf("Tag of %d and %d bytes changed the list", first, second)
			}
		}
	}
}

// What was summed stays what it is when the bytes are changed, and what is summed next hangs on nothing that was ahead of it.
func TestNothingIsKept(t *testing.T) {
	for _, size := range sizes() {
		b := some(size)
		sum, tag := Sum(b), Tag("n", b, b)
		wantSum, wantTag := sha256.Sum256(b), sha256.Sum256(laid("n", b, b))
		spoil(b)
		if sum != wantSum || tag != wantTag {
			t.Errorf("sums of %d bytes change with them", size)
		}
		if Sum(b) != sha256.Sum256(b) || Tag("n", b, b) != sha256.Sum256(laid("n", b, b)) {
			t.Errorf("sums of %d bytes hang on others", size)
		}
		spoil(b)
		if Sum(b) != wantSum || Tag("n", b, b) != wantTag {
			t.Errorf("sums of %d bytes are not the same again", size)
		}
	}
}

// A part may be a piece of another one, or the list may have it twice.
func TestPartsMayShareMemory(t *testing.T) {
	all := some(200)
	for at := range len(all) {
		tagged(t, "n", all[:at], all, all[at:], all[at/2:at], all[:at])
	}
}

func TestTextsAreOfTheirOwn(t *testing.T) {
	h := api.Hash(some(32))
	was := h
	s := Hex(h)
	h[0]++
	if s != Hex(was) || s == Hex(h) {
		t.Errorf("%q changes with its sum", s)
	}
	Num(h)
	h[0]--
	if h != was {
		t.Errorf("%x was changed", h)
	}
	b := []byte(s)
	got, ok := Read(string(b))
	spoil(b)
	if got != was || !ok {
		t.Errorf("%x, %t changes with its text", got, ok)
	}
	if other, ok := Read(strings.Repeat("x", 64)); other != (api.Hash{}) || ok {
		t.Errorf("%x, %t behind one that was read", other, ok)
	}
}

// Sums that are made at once are as those that are made one by one.
func TestSumsAtOnce(t *testing.T) {
	var all sync.WaitGroup
	for i := range 8 {
		all.Go(func() {
			for size := i; size < 500; size += 3 {
				b := some(size)
				h := Sum(b)
				again, ok := Read(Hex(h))
				if h != sha256.Sum256(b) || Tag("n", b) != sha256.Sum256(laid("n", b)) || again != h || !ok {
					t.Errorf("a sum of %d bytes is another one", size)
				}
			}
		})
	}
	all.Wait()
}
