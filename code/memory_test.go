package code

import (
	"bytes"
	"slices"
	"sync"
	"testing"
)

// roomy tells the same bytes with room for more behind them, in which there is something.
func roomy(b []byte) (front, all []byte) {
	all = append(slices.Clone(b), bytes.Repeat([]byte{0x55}, 100)...)
	return all[:len(b)], all
}

// spoil changes all bytes, and those in the room behind them.
func spoil(b []byte) {
	b = b[:cap(b)]
	for i := range b {
		b[i] ^= 0xff
	}
}

// parts are some of all kinds, and numbers that have no row.
func parts() []part {
	all := []part{}
	for _, n := range append(numbers(), wrongs()...) {
		all = append(all, part{kind: "num", n: n}, part{kind: "u64", u: uint64(n)})
	}
	for _, size := range sizes() {
		all = append(all, part{kind: "bytes", b: some(size)}, part{kind: "hash", h: sumOf(size)})
	}
	return all
}

// P8.4

func TestLayingChangesNothing(t *testing.T) {
	for _, p := range parts() {
		for _, size := range []int{0, 1, 8, 40} {
			front, all := roomy(some(size))
			was := slices.Clone(all)
			own, ownAll := roomy(p.b)
			ownWas := slices.Clone(ownAll)
			p.b = own
			got := p.laid(front)
			want := slices.Clone(got)
			if !bytes.Equal(all, was) || !bytes.Equal(ownAll, ownWas) {
				t.Fatalf("%s of %d changed what was handed in, or its room", p.kind, p.n)
			}
			spoil(front)
			spoil(own)
			if !bytes.Equal(got, want) {
				t.Fatalf("%s of %d changes with what was handed in", p.kind, p.n)
			}
			spoil(all)
			copy(all, was)
			spoil(got)
			if !bytes.Equal(all[:size], was[:size]) {
				t.Fatalf("%s of %d is in the memory of what was handed in", p.kind, p.n)
			}
		}
	}
}

// Two things laid behind the same bytes don't meet, however much room there is.
func TestLaidBehindTheSame(t *testing.T) {
	for _, front := range [][]byte{nil, Put(nil, 300), PutU64(nil, 7), PutBytes(nil, some(20)), PutHash(nil, sumOf(3)), Put(some(9), -1), make([]byte, 3, 500)} {
		was := slices.Clone(front)
		got, want := [][]byte{}, [][]byte{}
		for _, p := range parts() {
			b := p.laid(front)
			got, want = append(got, b), append(want, slices.Clone(b))
		}
		for i := range got {
			if !bytes.Equal(got[i], want[i]) || !bytes.Equal(front, was) {
				t.Fatalf("%x became %x", want[i], got[i])
			}
		}
	}
}

// What is laid may be laid behind itself.
func TestPutBytesOfTheSame(t *testing.T) {
	for _, size := range sizes() {
		b := some(size)
		want := slices.Concat(some(size), rowOf(size), some(size))
		if got := PutBytes(b, b); !bytes.Equal(got, want) || !bytes.Equal(b, some(size)) {
			t.Errorf("%d bytes behind themselves", size)
		}
		half := b[:size/2]
		want = slices.Concat(some(size)[:size/2], rowOf(size), some(size))
		if got := PutBytes(half, b); !bytes.Equal(got, want) || !bytes.Equal(b, some(size)) {
			t.Errorf("%d bytes behind half of them", size)
		}
	}
}

func TestOpenKeepsNothing(t *testing.T) {
	for _, p := range parts() {
		if p.kind == "num" && p.n < 0 {
			continue
		}
		b, all := roomy(p.laid(nil))
		was := slices.Clone(all)
		early := Open(b)
		if !read(early, p.kind).same(p) || !bytes.Equal(all, was) {
			t.Fatalf("%s is not read, or it changes what was handed in", p.kind)
		}
		late := Open(b)
		spoil(all)
		if got := read(late, p.kind); !got.same(p) || late.Left() != 0 || !late.Ok() {
			t.Fatalf("%s changes with what was handed in: %v", p.kind, got)
		}
	}
}

// The room behind what was handed in is not read.
func TestRoomIsNotRead(t *testing.T) {
	for _, p := range parts() {
		whole := p.laid(nil)
		for _, size := range []int{0, len(whole) - 1} {
			if size < 0 {
				continue
			}
			r := Open(whole[:size])
			if got := read(r, p.kind); size < len(whole) && (!got.same(part{kind: p.kind}) || r.Ok()) {
				t.Fatalf("%v is read of room", got)
			}
		}
	}
}

// What was read is in memory of its own: neither the reader nor what is read next changes with it.
func TestWhatIsReadIsNew(t *testing.T) {
	b := []byte{}
	for _, size := range sizes() {
		b = PutBytes(b, some(size))
	}
	r, again := Open(b), Open(b)
	got := [][]byte{}
	for range sizes() {
		got = append(got, r.Bytes())
	}
	for i, size := range sizes() {
		if !bytes.Equal(got[i], some(size)) {
			t.Fatalf("%d bytes are %x", size, got[i])
		}
		spoil(got[i])
		for k := i + 1; k < len(got); k++ {
			if !bytes.Equal(got[k], some(sizes()[k])) {
				t.Fatalf("%d bytes change with %d", sizes()[k], size)
			}
		}
		if c := again.Bytes(); !bytes.Equal(c, some(size)) {
			t.Fatalf("%d bytes are %x", size, c)
		}
	}
	r = Open(b)
	for _, size := range sizes() {
		c := r.Bytes()
		if !bytes.Equal(c, some(size)) {
			t.Fatalf("%d bytes changed with those ahead", size)
		}
		spoil(c)
	}
	if !r.Ok() || r.Left() != 0 {
		t.Error(r.Left(), r.Ok())
	}
}

// Readers of the same bytes don't meet.
func TestReadersAreOfTheirOwn(t *testing.T) {
	b := PutBytes(Put(Put(nil, 1), 2), []byte("three"))
	one, two := Open(b), Open(b)
	if one.Num() != 1 || one.Num() != 2 || two.Num() != 1 || string(one.Bytes()) != "three" {
		t.Error("one is moved by the other")
	}
	one.Num()
	if one.Ok() || !two.Ok() || two.Left() != 7 || two.Num() != 2 || string(two.Bytes()) != "three" {
		t.Error("one fails by the other")
	}
}

// What is laid and read at once is as it is one by one.
func TestNothingIsKept(t *testing.T) {
	same := some(300)
	var all sync.WaitGroup
	for i := range 8 {
		all.Go(func() {
			for n := i; n < 3000; n += 3 {
				b := PutHash(PutBytes(PutU64(Put(same, n), uint64(n)), same), sumOf(n%50))
				r := Open(b[300:])
				if r.Num() != n || r.U64() != uint64(n) || !bytes.Equal(r.Bytes(), same) || r.Hash() != sumOf(n%50) || r.Left() != 0 || !r.Ok() {
					t.Errorf("%d is another one", n)
				}
			}
		})
	}
	all.Wait()
}
