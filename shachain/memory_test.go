package shachain

import (
	"bytes"
	"slices"
	"sync"
	"testing"

	"corsned/api"
)

// roomy tells the same bytes with room for more behind them, in which there is something.
func roomy(b []byte) (front, whole []byte) {
	whole = append(slices.Clone(b), bytes.Repeat([]byte{0x55}, 100)...)
	return whole[:len(b)], whole
}

// spoil changes all bytes, and those in the room behind them.
func spoil(b []byte) {
	b = b[:cap(b)]
	for i := range b {
		b[i] ^= 0xff
	}
}

// P10.5

func TestReadingChangesAndKeepsNothing(t *testing.T) {
	for _, n := range []int{0, 1, 2, 3, 100, 65536, all} {
		want := bytesOf(sumOf(30), n)
		wrong := slices.Clone(want)
		wrong[len(wrong)-1] ^= 1
		for _, b := range [][]byte{want, wrong, want[:len(want)-1]} {
			front, whole := roomy(b)
			was := slices.Clone(whole)
			s, ok := Read(front)
			if !bytes.Equal(whole, was) {
				t.Fatalf("Read of %d changed what was handed in, or its room", n)
			}
			spoil(whole)
			if ok && !bytes.Equal(s.Bytes(), b) {
				t.Fatalf("a store of %d changes with what it was read of", n)
			}
		}
	}
}

// The room behind what was handed in is not read.
func TestRoomIsNotRead(t *testing.T) {
	whole := bytesOf(sumOf(31), 1000)
	for size := range len(whole) {
		unread(t, "an end that is room", whole[:size])
	}
	long := append(slices.Clone(whole), 1, 2, 3)
	readOf(t, long[:len(whole)])
}

func TestBytesAreNew(t *testing.T) {
	for _, n := range []int{0, 1, 2, 3, 4, 100, 65536, all} {
		want := bytesOf(sumOf(32), n)
		s := readOf(t, want)
		one, two := s.Bytes(), s.Bytes()
		spoil(one)
		if !bytes.Equal(two, want) || !bytes.Equal(s.Bytes(), want) {
			t.Fatalf("the bytes of a store of %d share memory", n)
		}
		later := s.Bytes()
		s.Add(n, secretOf(sumOf(32), min(n, all-1)))
		if !bytes.Equal(later, want) {
			t.Fatalf("the bytes of a store of %d change with it", n)
		}
	}
}

// What is handed in and told as a sum is a value: it doesn't change with what it was, or is.
func TestSecretsAreOfTheirOwn(t *testing.T) {
	seed := sumOf(33)
	was := seed
	secret, _ := Secret(seed, 5)
	seed[0] ^= 1
	if again, _ := Secret(was, 5); again != secret {
		t.Error("the secret of a seed is another one the next time")
	}
	s := New()
	for no := range 40 {
		secret := secretOf(was, no)
		s.Add(no, secret)
		secret[1] ^= 1
		got, _ := s.Get(no)
		got[2] ^= 1
		asTold(t, s, no, secretOf(was, no), true)
	}
}

// Stores don't meet: neither new ones, nor those that are read of the same bytes.
func TestStoresAreOfTheirOwn(t *testing.T) {
	one, two := New(), New()
	one.Add(0, sumOf(34))
	if two.Next() != 0 || two.Size() != 0 || New().Next() != 0 {
		t.Error("a new store has what another one has")
	}
	two.Add(0, sumOf(35))
	asTold(t, one, 0, sumOf(34), true)
	asTold(t, two, 0, sumOf(35), true)
	b := bytesOf(sumOf(36), 10)
	first, second := readOf(t, b), readOf(t, b)
	for no := 10; no < 50; no++ {
		if first.Add(no, secretOf(sumOf(36), no)) != api.OK {
			t.Fatalf("Add(%d) to the one", no)
		}
	}
	if second.Next() != 10 || !bytes.Equal(second.Bytes(), b) {
		t.Error("a store has what was added to another one")
	}
}

// What is asked changes nothing.
func TestAskingChangesNothing(t *testing.T) {
	for _, n := range []int{0, 1, 7, 100, 1000} {
		want := bytesOf(sumOf(37), n)
		s := readOf(t, want)
		for range 2 {
			for no := -2; no < n+3; no++ {
				s.Get(no)
			}
			s.Next()
			s.Size()
			if !bytes.Equal(s.Bytes(), want) {
				t.Fatalf("a store of %d is another one behind what was asked", n)
			}
		}
	}
}

// Of stores that are asked at once each answers as if it were alone.
func TestAtOnce(t *testing.T) {
	same := readOf(t, bytesOf(sumOf(38), 600))
	var group sync.WaitGroup
	for i := range 8 {
		group.Go(func() {
			own := New()
			for no := range 600 {
				secret, ok := Secret(sumOf(38), no)
				got, there := same.Get(no)
				if !ok || !there || got != secret || own.Add(no, secret) != api.OK {
					t.Errorf("%d of %d is another one", no, i)
				}
			}
			if !bytes.Equal(own.Bytes(), same.Bytes()) {
				t.Errorf("the store of %d is another one", i)
			}
		})
	}
	group.Wait()
}
