package code

import (
	"bytes"
	"encoding/binary"
	"math"
	"strings"
	"testing"

	"corsned/api"
)

// fronts are bytes behind which something is laid.
func fronts() [][]byte {
	return [][]byte{nil, {}, {0}, {128}, {255, 255}, []byte("front"), some(31), some(1000)}
}

// behind holds that what was laid is the front, and what has to stand behind it.
func behind(t *testing.T, what string, front, got []byte, want ...byte) {
	t.Helper()
	if len(got) != len(front)+len(want) || !bytes.Equal(got[:len(front)], front) || !bytes.Equal(got[len(front):], want) {
		t.Errorf("%s behind %.20x: %.60x, not %.60x", what, front, got, want)
	}
}

// P8.1

func TestPutOfExamples(t *testing.T) {
	for _, x := range []struct {
		n    int
		want []byte
	}{
		{0, []byte{0}},
		{1, []byte{1}},
		{100, []byte{100}},
		{127, []byte{127}},
		{128, []byte{128, 1}},
		{129, []byte{129, 1}},
		{255, []byte{255, 1}},
		{256, []byte{128, 2}},
		{300, []byte{172, 2}},
		{16383, []byte{255, 127}},
		{16384, []byte{128, 128, 1}},
		{65535, []byte{255, 255, 3}},
		{1 << 20, []byte{128, 128, 64}},
		{1<<21 - 1, []byte{255, 255, 127}},
		{1 << 21, []byte{128, 128, 128, 1}},
		{1 << 50, []byte{128, 128, 128, 128, 128, 128, 128, 2}},
		{1<<56 - 1, []byte{255, 255, 255, 255, 255, 255, 255, 127}},
		{1 << 56, []byte{128, 128, 128, 128, 128, 128, 128, 128, 1}},
		{1<<63 - 1, []byte{255, 255, 255, 255, 255, 255, 255, 255, 127}},
		{1<<63 - 2, []byte{254, 255, 255, 255, 255, 255, 255, 255, 127}},
		{-1, nil},
		{-300, nil},
		{-1 << 63, nil},
	} {
		for _, front := range fronts() {
			behind(t, "Put", front, Put(front, x.n), x.want...)
		}
	}
}

func TestPutOfNumbers(t *testing.T) {
	all := append(numbers(), wrongs()...)
	for n := -300; n < 70000; n++ {
		all = append(all, n)
	}
	for _, n := range all {
		behind(t, "Put", nil, Put(nil, n), rowOf(n)...)
	}
}

// A row has digits below 128 alone, the last one of which is not 0 but of 0 itself: those are the number.
func TestPutIsDigits(t *testing.T) {
	for _, n := range numbers() {
		got := Put(nil, n)
		sum := 0
		for i := len(got) - 1; i >= 0; i-- {
			sum = sum*128 + int(got[i])%128
			if got[i] >= 128 != (i < len(got)-1) {
				t.Errorf("Put of %d: %x", n, got)
			}
		}
		if sum != n || got[len(got)-1] == 0 && n > 0 {
			t.Errorf("Put of %d: %x", n, got)
		}
	}
}

func TestPutU64(t *testing.T) {
	for _, x := range []struct {
		n    uint64
		want []byte
	}{
		{0, []byte{0, 0, 0, 0, 0, 0, 0, 0}},
		{1, []byte{0, 0, 0, 0, 0, 0, 0, 1}},
		{255, []byte{0, 0, 0, 0, 0, 0, 0, 255}},
		{256, []byte{0, 0, 0, 0, 0, 0, 1, 0}},
		{258, []byte{0, 0, 0, 0, 0, 0, 1, 2}},
		{0x0102030405060708, []byte{1, 2, 3, 4, 5, 6, 7, 8}},
		{0xf1f2f3f4f5f6f7f8, []byte{0xf1, 0xf2, 0xf3, 0xf4, 0xf5, 0xf6, 0xf7, 0xf8}},
		{1 << 63, []byte{128, 0, 0, 0, 0, 0, 0, 0}},
		{1<<63 - 1, []byte{127, 255, 255, 255, 255, 255, 255, 255}},
		{1<<64 - 1, []byte{255, 255, 255, 255, 255, 255, 255, 255}},
	} {
		for _, front := range fronts() {
			behind(t, "PutU64", front, PutU64(front, x.n), x.want...)
		}
	}
	for _, n := range numbers() {
		for _, u := range []uint64{uint64(n), ^uint64(n)} {
			behind(t, "PutU64", nil, PutU64(nil, u), binary.BigEndian.AppendUint64(nil, u)...)
		}
	}
}

func TestPutBytes(t *testing.T) {
	for _, x := range []struct{ bytes, want string }{
		{"", "\x00"},
		{"a", "\x01a"},
		{"abc", "\x03abc"},
		{"\x00", "\x01\x00"},
		{"\x80\xff", "\x02\x80\xff"},
		{strings.Repeat("x", 127), "\x7f" + strings.Repeat("x", 127)},
		{strings.Repeat("x", 128), "\x80\x01" + strings.Repeat("x", 128)},
		{strings.Repeat("x", 300), "\xac\x02" + strings.Repeat("x", 300)},
		{strings.Repeat("x", 16384), "\x80\x80\x01" + strings.Repeat("x", 16384)},
	} {
		for _, front := range fronts() {
			behind(t, "PutBytes", front, PutBytes(front, []byte(x.bytes)), []byte(x.want)...)
		}
	}
	behind(t, "PutBytes of nil", nil, PutBytes(nil, nil), 0)
	for size := range 600 {
		behind(t, "PutBytes", nil, PutBytes(nil, some(size)), append(rowOf(size), some(size)...)...)
	}
}

func TestPutHash(t *testing.T) {
	for _, h := range []api.Hash{{}, {1}, {31: 1}, {0: 255, 31: 128}, sumOf(1), sumOf(2), sumOf(3)} {
		for _, front := range fronts() {
			behind(t, "PutHash", front, PutHash(front, h), h[:]...)
		}
	}
}

// What is laid stands one behind the other.
func TestLaidOneBehindTheOther(t *testing.T) {
	b := Put(nil, 300)
	b = PutU64(b, 258)
	b = PutBytes(b, []byte("ab"))
	b = PutHash(b, api.Hash{0: 9, 31: 8})
	b = Put(b, -5)
	b = Put(b, math.MaxInt)
	want := "\xac\x02" + "\x00\x00\x00\x00\x00\x00\x01\x02" + "\x02ab" + "\x09" + strings.Repeat("\x00", 30) + "\x08" + "\xff\xff\xff\xff\xff\xff\xff\xff\x7f"
	if string(b) != want {
		t.Errorf("%x, not %x", b, want)
	}
}
