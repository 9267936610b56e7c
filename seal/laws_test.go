package seal

import (
	"bytes"
	"math/rand"
	"testing"
)

// P9.5

func TestWhatWasSealedIsOpened(t *testing.T) {
	for i := range 2000 {
		key, plain := keyOf(i), some(i)
		sealed := Seal(key, plain)
		if len(sealed) != i+8 {
			t.Fatalf("Seal of %d bytes has %d", i, len(sealed))
		}
		opened(t, "what was sealed", key, sealed, plain)
	}
	for _, key := range keys() {
		for _, size := range sizes() {
			opened(t, "what was sealed", key, Seal(key, some(size)), some(size))
		}
	}
}

// What is hidden may be anything: with its tag it is opened, and what is opened is sealed as it was.
func TestWhatIsOpenedIsSealedSo(t *testing.T) {
	for _, key := range keys() {
		for _, size := range sizes() {
			for _, hidden := range [][]byte{some(size), make([]byte, size), bytes.Repeat([]byte{0xff}, size), streamed(key, size)} {
				sealed := marked(key, hidden)
				plain, ok := Open(key, sealed)
				if !ok || len(plain) != size || !bytes.Equal(Seal(key, plain), sealed) {
					t.Errorf("%d hidden bytes are opened as %d, %v, which are sealed in another way", size, len(plain), ok)
				}
			}
		}
	}
}

// What is opened of any bytes would be sealed so: just those that have their own tag are opened.
func TestAnyBytes(t *testing.T) {
	random := rand.New(rand.NewSource(9))
	for i := range 3000 {
		b := make([]byte, random.Intn(60))
		random.Read(b)
		key := keyOf(random.Intn(5))
		if i%2 == 0 && len(b) >= 8 {
			b = marked(key, b[8:])
		}
		right := len(b) >= 8 && bytes.Equal(b, marked(key, b[:len(b)-8]))
		plain, ok := Open(key, b)
		if ok != right || !ok && len(plain) != 0 || ok && !bytes.Equal(Seal(key, plain), b) {
			t.Fatalf("%x is opened as %x, %v", b, plain, ok)
		}
	}
}

// Of one key, what is hidden differs where, and by what, the plain bytes do.
func TestHiddenDiffersAsPlainDoes(t *testing.T) {
	for _, key := range keys() {
		for _, one := range sizes() {
			for _, two := range []int{0, 1, 33, 1000, limit - 1, limit} {
				a, b := some(one), some(two)
				hiddenA, hiddenB := Seal(key, a), Seal(key, b)
				for i := range min(one, two) {
					if hiddenA[i]^hiddenB[i] != a[i]^b[i] {
						t.Fatalf("%d and %d bytes at %d", one, two, i)
					}
				}
			}
		}
	}
}

// The row that is put over bytes of 0 is what is seen of it.
func TestStreamIsWhatHides(t *testing.T) {
	for _, key := range keys() {
		for _, size := range sizes() {
			hidden := Seal(key, make([]byte, size))
			if !bytes.Equal(hidden[:size], Stream(key, size)) {
				t.Errorf("%d bytes of 0 are hidden by another row", size)
			}
		}
	}
}
