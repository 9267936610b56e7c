package code

import (
	"bytes"
	"math"
	"math/rand"
	"slices"
	"strings"
	"testing"
	"time"

	"corsned/api"
)

// failed holds that a reader has failed, and stays so: it tells nothing of anything.
func failed(t *testing.T, what string, r *Reader) {
	t.Helper()
	for range 3 {
		if r.Ok() || r.Left() != 0 {
			t.Fatalf("%s: %d left, %t", what, r.Left(), r.Ok())
		}
		if n, u, b, h := r.Num(), r.U64(), r.Bytes(), r.Hash(); n != 0 || u != 0 || len(b) != 0 || h != (api.Hash{}) {
			t.Fatalf("%s: %d, %d, %x, %x are told", what, n, u, b, h)
		}
	}
	r.Hash()
	r.Bytes()
	r.U64()
	r.Num()
	if r.Ok() || r.Left() != 0 {
		t.Fatalf("%s: %d left, %t", what, r.Left(), r.Ok())
	}
}

// P8.2, P8.3

func TestOpen(t *testing.T) {
	for _, size := range sizes() {
		if r := Open(some(size)); !r.Ok() || r.Left() != size {
			t.Errorf("%d left of %d, %t", r.Left(), size, r.Ok())
		}
	}
	if r := Open(nil); r == nil || !r.Ok() || r.Left() != 0 {
		t.Error("one of nil has failed, or is nil")
	}
	if r := Open([]byte{}); r == nil || !r.Ok() || r.Left() != 0 {
		t.Error("one of none has failed, or is nil")
	}
}

func TestNum(t *testing.T) {
	for _, x := range []struct {
		b    string
		n    int
		left int
	}{
		{"\x00", 0, 0},
		{"\x00\x00", 0, 1},
		{"\x01", 1, 0},
		{"\x7f", 127, 0},
		{"\x7f\x80", 127, 1},
		{"\x80\x01", 128, 0},
		{"\x80\x01\x00", 128, 1},
		{"\xff\x01", 255, 0},
		{"\xac\x02", 300, 0},
		{"\xac\x02rest", 300, 4},
		{"\x80\x80\x01", 16384, 0},
		{"\x80\x80\x80\x80\x80\x80\x80\x02", 1 << 50, 0},
		{"\x80\x80\x80\x80\x80\x80\x80\x80\x01", 1 << 56, 0},
		{"\x80\x80\x80\x80\x80\x80\x80\x80\x40", 1 << 62, 0},
		{"\xff\xff\xff\xff\xff\xff\xff\xff\x7f", math.MaxInt, 0},
		{"\xff\xff\xff\xff\xff\xff\xff\xff\x7f\xff\xff", math.MaxInt, 2},
		{"\xfe\xff\xff\xff\xff\xff\xff\xff\x7f", math.MaxInt - 1, 0},
	} {
		r := Open([]byte(x.b))
		if n := r.Num(); n != x.n || r.Left() != x.left || !r.Ok() {
			t.Errorf("%x is %d, %d left, %t", x.b, n, r.Left(), r.Ok())
		}
	}
}

// Where there is no row of a number: none at all, one without an end, one with more digits than it needs, and one of a number that is too great.
func TestNumOfNoRow(t *testing.T) {
	for _, b := range []string{
		"", "\x80", "\xff", "\x80\x80", "\xff\xff\xff", strings.Repeat("\x80", 8), strings.Repeat("\x80", 9), strings.Repeat("\x80", 10), strings.Repeat("\xff", 9), strings.Repeat("\xff", 1000),
		"\x80\x00", "\xff\x00", "\x81\x00", "\x80\x80\x00", "\xff\xff\x00", "\x80\x00\x01", "\x81\x80\x00", "\xac\x82\x00", strings.Repeat("\x80", 8) + "\x00", strings.Repeat("\xff", 8) + "\x00",
		strings.Repeat("\x80", 9) + "\x01", strings.Repeat("\xff", 9) + "\x01", strings.Repeat("\xff", 9) + "\x00", strings.Repeat("\x80", 9) + "\x00", strings.Repeat("\xff", 9) + "\x7f", strings.Repeat("\x80", 9) + "\x02", strings.Repeat("\x80", 10) + "\x01", strings.Repeat("\x80", 64) + "\x01", strings.Repeat("\xff", 18) + "\x01",
		"\x81" + strings.Repeat("\x80", 8) + "\x01", "\x80\x00" + strings.Repeat("\x01", 40),
	} {
		r := Open([]byte(b))
		if n := r.Num(); n != 0 {
			t.Errorf("%x is %d", b, n)
		}
		failed(t, b, r)
		r = Open([]byte(b))
		if got := r.Bytes(); len(got) != 0 {
			t.Errorf("%x has %x", b, got)
		}
		failed(t, b, r)
	}
}

func TestU64(t *testing.T) {
	for _, x := range []struct {
		b    string
		n    uint64
		left int
	}{
		{"\x00\x00\x00\x00\x00\x00\x00\x00", 0, 0},
		{"\x00\x00\x00\x00\x00\x00\x01\x02", 258, 0},
		{"\x01\x02\x03\x04\x05\x06\x07\x08\x09", 0x0102030405060708, 1},
		{"\x80\x00\x00\x00\x00\x00\x00\x00", 1 << 63, 0},
		{"\xff\xff\xff\xff\xff\xff\xff\xff\xff\xff", 1<<64 - 1, 2},
		{"\xff\x00\x00\x00\x00\x00\x00\x01rest", 255<<56 + 1, 4},
	} {
		r := Open([]byte(x.b))
		if n := r.U64(); n != x.n || r.Left() != x.left || !r.Ok() {
			t.Errorf("%x is %d, %d left, %t", x.b, n, r.Left(), r.Ok())
		}
	}
	for size := range 8 {
		r := Open(bytes.Repeat([]byte{7}, size))
		if n := r.U64(); n != 0 {
			t.Errorf("%d bytes are %d", size, n)
		}
		failed(t, "fewer than eight", r)
	}
}

func TestBytes(t *testing.T) {
	for _, x := range []struct {
		b, want string
		left    int
	}{
		{"\x00", "", 0},
		{"\x00\x00", "", 1},
		{"\x01a", "a", 0},
		{"\x03abcde", "abc", 2},
		{"\x02\x80\xff\x01", "\x80\xff", 1},
		{"\x80\x01" + strings.Repeat("x", 130), strings.Repeat("x", 128), 2},
		{"\x7f" + strings.Repeat("y", 127), strings.Repeat("y", 127), 0},
	} {
		r := Open([]byte(x.b))
		if b := r.Bytes(); string(b) != x.want || r.Left() != x.left || !r.Ok() {
			t.Errorf("%x has %x, %d left, %t", x.b, b, r.Left(), r.Ok())
		}
	}
}

// Where there are fewer bytes than the row says, be it ever so great.
func TestBytesThatAreNotThere(t *testing.T) {
	for _, n := range append(numbers(), 3, 4, 5) {
		for _, size := range []int{0, 1, 2, 8, 40, 127, 128} {
			if n <= size {
				continue
			}
			r := Open(append(rowOf(n), some(size)...))
			if b := r.Bytes(); len(b) != 0 {
				t.Errorf("%d of %d bytes are told", len(b), n)
			}
			failed(t, "fewer bytes", r)
		}
	}
	for _, size := range sizes() {
		if size == 0 {
			continue
		}
		r := Open(append(rowOf(size), some(size-1)...))
		if b := r.Bytes(); len(b) != 0 {
			t.Errorf("%d of %d bytes are told", len(b), size)
		}
		failed(t, "one byte fewer", r)
	}
}

func TestHash(t *testing.T) {
	for seed := range 20 {
		h := sumOf(seed)
		for _, rest := range []int{0, 1, 31, 32, 100} {
			r := Open(append(slices.Clone(h[:]), some(rest)...))
			if got := r.Hash(); got != h || r.Left() != rest || !r.Ok() {
				t.Errorf("%x is %x, %d left of %d, %t", h, got, r.Left(), rest, r.Ok())
			}
		}
	}
	for size := range 32 {
		r := Open(bytes.Repeat([]byte{7}, size))
		if h := r.Hash(); h != (api.Hash{}) {
			t.Errorf("%d bytes are %x", size, h)
		}
		failed(t, "fewer than 32", r)
	}
}

// Whatever is behind one that failed, nothing of it is told, however much it is.
func TestNothingIsLeftOfOneThatFailed(t *testing.T) {
	good := PutHash(PutBytes(PutU64(Put(nil, 5), 6), []byte("seven")), sumOf(8))
	for _, bad := range []string{"\x80\x00", strings.Repeat("\xff", 9) + "\x7f"} {
		r := Open(append([]byte(bad), good...))
		r.Num()
		failed(t, bad, r)
		r = Open(append([]byte(bad), good...))
		r.Bytes()
		failed(t, bad, r)
	}
	r := Open(append(rowOf(len(good)+1), good...))
	r.Bytes()
	failed(t, "bytes that are not there", r)
	r = Open(PutU64(nil, 1)[:7])
	r.U64()
	failed(t, "seven of eight", r)
	r = Open(append(Put(nil, 1), good[:31]...))
	if r.Num() != 1 || r.Left() != 31 || !r.Ok() {
		t.Error("the part ahead is not read")
	}
	r.Hash()
	failed(t, "31 of 32", r)
}

// A reader that has nothing left has not failed till something is read.
func TestAllIsRead(t *testing.T) {
	for _, kind := range kinds {
		p := part{kind: kind}
		r := Open(p.laid(nil))
		if !read(r, kind).same(p) || r.Left() != 0 || !r.Ok() {
			t.Errorf("%s: %d left, %t", kind, r.Left(), r.Ok())
		}
		for _, next := range kinds {
			r := Open(p.laid(nil))
			read(r, kind)
			if got := read(r, next); !got.same(part{kind: next}) {
				t.Errorf("%s behind all: %v", next, got)
			}
			failed(t, next, r)
		}
	}
}

// Left and Ok change nothing.
func TestLeftAndOkOnlyTell(t *testing.T) {
	r := Open([]byte("\xac\x02\x01a"))
	for range 5 {
		if r.Left() != 4 || !r.Ok() {
			t.Fatal(r.Left(), r.Ok())
		}
	}
	if n := r.Num(); n != 300 {
		t.Fatal(n)
	}
	for range 5 {
		if r.Left() != 2 || !r.Ok() {
			t.Fatal(r.Left(), r.Ok())
		}
	}
	if b := r.Bytes(); string(b) != "a" || r.Left() != 0 || !r.Ok() {
		t.Fatal(b, r.Left(), r.Ok())
	}
}

// All bytes of one, two and three, read in all ways of two parts.
func TestAllShortBytes(t *testing.T) {
	for _, first := range kinds {
		for _, second := range kinds {
			followed(t, nil, first, second)
			for n := range 1 << 8 {
				followed(t, []byte{byte(n)}, first, second)
			}
			for n := range 1 << 16 {
				followed(t, []byte{byte(n >> 8), byte(n)}, first, second)
			}
		}
	}
	edges := []byte{0, 1, 2, 3, 63, 64, 126, 127, 128, 129, 130, 131, 191, 192, 254, 255}
	for _, a := range edges {
		for _, b := range edges {
			for _, c := range edges {
				for _, d := range edges {
					followed(t, []byte{a, b, c, d}, "num", "num", "num", "num")
					followed(t, []byte{a, b, c, d}, "num", "bytes", "num")
					followed(t, []byte{a, b, c, d}, "bytes", "bytes", "bytes", "num")
				}
			}
		}
	}
}

// Rows of no rule, of bytes that are mostly such as end a row or go on with it.
func TestBytesOfNoRule(t *testing.T) {
	source := rand.New(rand.NewSource(8))
	for range 100_000 {
		b := make([]byte, source.Intn(60))
		for i := range b {
			switch source.Intn(4) {
			case 0:
				b[i] = byte(source.Intn(5))
			case 1:
				b[i] = 128
			case 2:
				b[i] = 255
			default:
				b[i] = byte(source.Intn(256))
			}
		}
		row := make([]string, source.Intn(8))
		for i := range row {
			row[i] = kinds[source.Intn(len(kinds))]
		}
		followed(t, b, row...)
	}
}

// Rows of eight, nine and ten digits, of each last one.
func TestLongRows(t *testing.T) {
	for _, fill := range []byte{128, 129, 200, 255} {
		for size := 6; size < 12; size++ {
			for last := range 256 {
				b := append(bytes.Repeat([]byte{fill}, size), byte(last))
				followed(t, b, "num", "num")
				followed(t, b, "bytes", "num")
				followed(t, append(b, 5, 6), "num", "num", "num", "num")
				followed(t, append(b, 0, 6), "num", "num", "num", "num")
			}
		}
	}
}

// Many parts are read about as fast as they were laid: what is left is not told anew for each.
func TestManyParts(t *testing.T) {
	const count = 1 << 20
	b := bytes.Repeat([]byte{172, 2, 1, 9}, count)
	begin := time.Now()
	r := Open(b)
	for i := range count {
		if n := r.Num(); n != 300 {
			t.Fatal(i, n)
		}
		if c := r.Bytes(); len(c) != 1 || c[0] != 9 {
			t.Fatal(i, c)
		}
	}
	if !r.Ok() || r.Left() != 0 {
		t.Error(r.Left(), r.Ok())
	}
	if took := time.Since(begin); took > 20*time.Second {
		t.Error(took)
	}
}
