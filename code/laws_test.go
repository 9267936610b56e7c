package code

import (
	"bytes"
	"math/rand"
	"testing"

	"corsned/api"
)

// one tells a part of no rule.
func one(source *rand.Rand) part {
	p := part{kind: kinds[source.Intn(len(kinds))]}
	switch p.kind {
	case "num":
		p.n = int(source.Int63() >> source.Intn(63))
	case "u64":
		p.u = source.Uint64() >> source.Intn(64)
	case "bytes":
		p.b = make([]byte, source.Intn(200))
		source.Read(p.b)
	default:
		source.Read(p.h[:])
	}
	return p
}

// P8.5

func TestWhatWasLaidIsRead(t *testing.T) {
	for _, p := range parts() {
		if p.kind == "num" && p.n < 0 {
			continue
		}
		for _, rest := range []int{0, 1, 50} {
			r := Open(append(p.laid(nil), some(rest)...))
			if got := read(r, p.kind); !got.same(p) || r.Left() != rest || !r.Ok() {
				t.Errorf("%v is %v, %d left of %d, %t", p, got, r.Left(), rest, r.Ok())
			}
		}
	}
}

func TestRowsOfPartsAreRead(t *testing.T) {
	source := rand.New(rand.NewSource(5))
	for range 2000 {
		b, row := []byte{}, make([]part, source.Intn(30))
		for i := range row {
			row[i] = one(source)
			b = row[i].laid(b)
		}
		r := Open(b)
		for i, p := range row {
			if got := read(r, p.kind); !got.same(p) {
				t.Fatalf("part %d is %v, not %v", i, got, p)
			}
		}
		if r.Left() != 0 || !r.Ok() {
			t.Fatalf("%d left, %t", r.Left(), r.Ok())
		}
	}
}

// What was read, laid again, is the bytes that are gone; what can't be read is nobody's row.
func TestWhatIsReadWouldBeLaidSo(t *testing.T) {
	source := rand.New(rand.NewSource(6))
	for range 200_000 {
		b := make([]byte, source.Intn(50))
		source.Read(b)
		for i := range b {
			if source.Intn(3) == 0 {
				b[i] = byte(source.Intn(3)) * 127
			}
		}
		r := Open(b)
		again := []byte{}
		for r.Ok() {
			p := read(r, kinds[source.Intn(len(kinds))])
			if !r.Ok() {
				break
			}
			again = p.laid(again)
			if len(again)+r.Left() != len(b) || !bytes.Equal(again, b[:len(again)]) {
				t.Fatalf("%x is laid again as %x", b, again)
			}
		}
	}
}

// Each beginning of what was laid that is not all of it fails, and tells nothing.
func TestBeginningsFail(t *testing.T) {
	for _, p := range parts() {
		whole := p.laid(nil)
		if len(whole) > 400 {
			continue
		}
		for size := range whole {
			r := Open(whole[:size])
			if got := read(r, p.kind); !got.same(part{kind: p.kind}) || r.Ok() || r.Left() != 0 {
				t.Fatalf("%d bytes of %x are %v", size, whole, got)
			}
		}
	}
}

// Rows of parts that are not alike are laid unlike, if their kinds are alike.
func TestUnlikePartsAreLaidUnlike(t *testing.T) {
	seen := map[string]part{}
	for _, a := range []int{0, 1, 2, 127, 128, 129, 255, 256, 16383, 16384} {
		for _, b := range []string{"", "\x00", "\x01", "\x80", "\x00\x00", "\x80\x01", "ab"} {
			for _, c := range []int{0, 1, 127, 128, 16384} {
				row := string(Put(PutBytes(Put(nil, a), []byte(b)), c))
				if other, ok := seen[row]; ok {
					t.Errorf("%d, %x, %d is laid as %v", a, b, c, other)
				}
				seen[row] = part{n: a, b: []byte(b), u: uint64(c)}
			}
		}
	}
	if bytes.Equal(PutHash(nil, api.Hash{1}), PutHash(nil, api.Hash{2})) || bytes.Equal(PutU64(nil, 1), PutU64(nil, 2)) {
		t.Error("unlike ones are laid alike")
	}
}
