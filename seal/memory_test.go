package seal

import (
	"bytes"
	"slices"
	"sync"
	"testing"
)

// roomy tells the same bytes with room for more behind them, in which there is something.
func roomy(b []byte) (front, all []byte) {
	all = append(slices.Clone(b), bytes.Repeat([]byte{0x55}, 100)...)
	return all[:len(b)], all
}

// spoil changes all bytes, and those in the room behind them.
func spoil(b []byte) {
	b = b[:cap(b)]
	for i := range b {
		b[i] ^= 0xff
	}
}

// P9.4

func TestSealingChangesNothing(t *testing.T) {
	for _, size := range sizes() {
		plain, all := roomy(some(size))
		was := slices.Clone(all)
		got := Seal(rising(), plain)
		want := sealedOf(rising(), some(size))
		if !bytes.Equal(all, was) {
			t.Fatalf("Seal of %d changed what was handed in, or its room", size)
		}
		spoil(all)
		if !bytes.Equal(got, want) {
			t.Fatalf("Seal of %d changes with what was handed in", size)
		}
		copy(all, was)
		spoil(got)
		if !bytes.Equal(all, was) {
			t.Fatalf("Seal of %d is in the memory of what was handed in", size)
		}
	}
}

func TestOpeningChangesNothing(t *testing.T) {
	for _, size := range sizes() {
		right := sealedOf(rising(), some(size))
		wrong := slices.Clone(right)
		wrong[0] ^= 1
		for _, b := range [][]byte{right, wrong, right[:7]} {
			sealed, all := roomy(b)
			was := slices.Clone(all)
			got, _ := Open(rising(), sealed)
			want := slices.Clone(got)
			if !bytes.Equal(all, was) {
				t.Fatalf("Open of %d changed what was handed in, or its room", size)
			}
			spoil(all)
			if !bytes.Equal(got, want) {
				t.Fatalf("Open of %d changes with what was handed in", size)
			}
			copy(all, was)
			spoil(got)
			if !bytes.Equal(all, was) {
				t.Fatalf("Open of %d is in the memory of what was handed in", size)
			}
		}
	}
}

// The room behind what was handed in is neither hidden nor opened.
func TestRoomIsNotRead(t *testing.T) {
	whole := sealedOf(rising(), some(50))
	for size := range len(whole) {
		closed(t, "a seal whose end is room", rising(), whole[:size])
	}
	all := some(80)
	for size := range len(all) {
		if got := Seal(rising(), all[:size]); !bytes.Equal(got, sealedOf(rising(), all[:size:size])) {
			t.Errorf("Seal of %d of 80 bytes = %x", size, got)
		}
	}
}

// What is told again is in memory of its own.
func TestAnswersAreNew(t *testing.T) {
	for _, size := range sizes() {
		plain := some(size)
		sealed := sealedOf(full(), plain)
		for range 3 {
			stream, seal := Stream(full(), size), Seal(full(), plain)
			open, ok := Open(full(), sealed)
			if !bytes.Equal(stream, streamed(full(), size)) || !bytes.Equal(seal, sealed) || !ok || !bytes.Equal(open, plain) {
				t.Fatalf("of %d bytes another one is told the next time", size)
			}
			spoil(stream)
			if !bytes.Equal(seal, sealed) || !bytes.Equal(open, plain) {
				t.Fatalf("of %d bytes the answers share memory", size)
			}
			spoil(seal)
			spoil(open)
		}
	}
}

// What is sealed and opened at once is as it is one by one.
func TestNothingIsKept(t *testing.T) {
	same := some(300)
	var all sync.WaitGroup
	for i := range 8 {
		all.Go(func() {
			for n := i; n < 600; n += 3 {
				key := keyOf(n)
				sealed := Seal(key, same[:n%300])
				plain, ok := Open(key, sealed)
				if !bytes.Equal(sealed, sealedOf(key, same[:n%300])) || !ok || !bytes.Equal(plain, same[:n%300]) || !bytes.Equal(Stream(key, n), streamed(key, n)) {
					t.Errorf("%d is another one", n)
				}
			}
		})
	}
	all.Wait()
}
