package nat

import (
	"math"
	"math/big"
	"math/rand"
	"slices"
	"testing"

	"corsned/api"
)

// number tells the number without bounds that a natural is; one that is not right counts as 0.
func number(a []uint32) *big.Int {
	n := new(big.Int)
	if len(a) > 0 && a[len(a)-1] == 0 {
		return n
	}
	for _, digit := range slices.Backward(a) {
		n.Lsh(n, 32)
		n.Add(n, new(big.Int).SetUint64(uint64(digit)))
	}
	return n
}

// natural tells the digits of a number without bounds.
func natural(n *big.Int) []uint32 {
	a := []uint32{}
	for n = new(big.Int).Set(n); n.Sign() > 0; n.Rsh(n, 32) {
		a = append(a, uint32(n.Uint64()))
	}
	return a
}

// power tells 2^n and more.
func power(n uint, more int64) *big.Int {
	two := new(big.Int).Lsh(big.NewInt(1), n)
	return two.Add(two, big.NewInt(more))
}

// wrong are naturals that are not right.
func wrong() [][]uint32 {
	return [][]uint32{{0}, {0, 0}, {5, 0}, {0, 7, 0}, {1, 2, 3, 0}, {math.MaxUint32, 0, 0}, make([]uint32, 40)}
}

// ends are naturals at whose digits something begins or ends, of up to three digits, and none.
func ends() [][]uint32 {
	digits := []uint32{0, 1, 2, 10, 1<<31 - 1, 1 << 31, 1<<32 - 2, math.MaxUint32}
	l := [][]uint32{{}}
	for i := 0; i < len(l); i++ {
		if len(l[i]) == 3 {
			break
		}
		for _, digit := range digits {
			l = append(l, append(slices.Clone(l[i]), digit))
		}
	}
	return slices.DeleteFunc(l, func(a []uint32) bool { return len(a) > 0 && a[len(a)-1] == 0 })
}

// samples are naturals of all kinds: few ends, powers of two and their neighbours, long ones, and those that are not right.
func samples() [][]uint32 {
	l := append(wrong(), nil, []uint32{}, []uint32{1}, []uint32{2}, []uint32{3}, []uint32{10}, []uint32{999_999_999}, []uint32{1_000_000_000})
	for _, n := range []uint{31, 32, 50, 63, 64, 95, 96, 128, 300, 1000} {
		for more := int64(-2); more <= 2; more++ {
			l = append(l, natural(power(n, more)))
		}
	}
	dice := rand.New(rand.NewSource(2))
	for size := 1; size < 30; size++ {
		a, b := make([]uint32, size), make([]uint32, size)
		for i := range a {
			a[i] = dice.Uint32()
			b[i] = []uint32{0, 1, 1 << 31, math.MaxUint32}[dice.Intn(4)]
		}
		a[size-1] |= 1
		b[size-1] |= 1 << 31
		l = append(l, a, b)
	}
	return l
}

// is holds a natural that was told against the number that it is to be: right, and the same.
func is(t *testing.T, got []uint32, want *big.Int, what string, from ...[]uint32) {
	t.Helper()
	if !slices.Equal(got, natural(want)) {
		t.Fatalf("%s of %x: %x, not %x", what, from, got, natural(want))
	}
}

func TestSamplesAreOfAllKinds(t *testing.T) {
	right, not, long := 0, 0, 0
	for _, a := range append(samples(), ends()...) {
		switch {
		case len(a) > 0 && a[len(a)-1] == 0:
			not++
		case len(a) > 20:
			long++
		default:
			right++
		}
	}
	if right < 400 || not < 5 || long < 10 {
		t.Error(right, not, long)
	}
}

// P2.1

func TestRight(t *testing.T) {
	for _, a := range [][]uint32{nil, {}, {1}, {math.MaxUint32}, {0, 1}, {0, 0, 0, 1}, {5, 0, math.MaxUint32}} {
		if !Right(a) {
			t.Errorf("%x is not right", a)
		}
	}
	for _, a := range wrong() {
		if Right(a) {
			t.Errorf("%x is right", a)
		}
	}
}

func TestOf(t *testing.T) {
	for n, want := range map[uint64][]uint32{
		0: {}, 1: {1}, 9: {9}, 1<<32 - 1: {math.MaxUint32}, 1 << 32: {0, 1}, 1<<32 + 1: {1, 1}, 7<<32 + 5: {5, 7},
		1<<63 - 1: {math.MaxUint32, 1<<31 - 1}, 1 << 63: {0, 1 << 31}, 1<<64 - 1: {math.MaxUint32, math.MaxUint32},
	} {
		if got := Of(n); !slices.Equal(got, want) {
			t.Errorf("Of(%d) = %x", n, got)
		}
	}
}

func TestInt(t *testing.T) {
	for _, x := range []struct {
		a    []uint32
		want int
		ok   bool
	}{
		{nil, 0, true},
		{[]uint32{}, 0, true},
		{[]uint32{7}, 7, true},
		{[]uint32{math.MaxUint32}, 1<<32 - 1, true},
		{[]uint32{0, 1}, 1 << 32, true},
		{[]uint32{math.MaxUint32, 1<<31 - 1}, api.MaxInt, true},
		{[]uint32{math.MaxUint32 - 1, 1<<31 - 1}, api.MaxInt - 1, true},
		{[]uint32{0, 1 << 31}, 0, false},
		{[]uint32{1, 1 << 31}, 0, false},
		{[]uint32{math.MaxUint32, math.MaxUint32}, 0, false},
		{[]uint32{0, 0, 1}, 0, false},
		{[]uint32{1, 0, 1}, 0, false},
		{[]uint32{5, 0, 0, 0, 1}, 0, false},
		{[]uint32{0}, 0, true},
		{[]uint32{5, 0}, 0, true},
		{[]uint32{1, 2, 3, 0}, 0, true},
	} {
		if got, ok := Int(x.a); got != x.want || ok != x.ok {
			t.Errorf("Int(%x) = %d, %t", x.a, got, ok)
		}
	}
}

func TestCmpOfExamples(t *testing.T) {
	for _, x := range []struct {
		a, b []uint32
		want int
	}{
		{nil, nil, 0},
		{nil, []uint32{}, 0},
		{[]uint32{1}, nil, 1},
		{nil, []uint32{1}, -1},
		{[]uint32{3}, []uint32{3}, 0},
		{[]uint32{2}, []uint32{3}, -1},
		{[]uint32{0, 1}, []uint32{math.MaxUint32}, 1},
		{[]uint32{5, 1}, []uint32{4, 2}, -1},
		{[]uint32{5, 2}, []uint32{4, 2}, 1},
		{[]uint32{1 << 31}, []uint32{1}, 1},
		{[]uint32{5, 0}, nil, 0},
		{[]uint32{5, 0}, []uint32{9, 0}, 0},
		{[]uint32{5, 0}, []uint32{1}, -1},
		{[]uint32{1}, []uint32{1, 2, 3, 0}, 1},
	} {
		if got := Cmp(x.a, x.b); got != x.want {
			t.Errorf("Cmp(%x, %x) = %d", x.a, x.b, got)
		}
	}
}

func TestCmpOfAllSamples(t *testing.T) {
	l := append(samples(), ends()...)
	for _, a := range l {
		for _, b := range l {
			if got := Cmp(a, b); got != number(a).Cmp(number(b)) {
				t.Fatalf("Cmp(%x, %x) = %d", a, b, got)
			}
		}
	}
}

func TestNumbersAndNaturalsAreEachOthers(t *testing.T) {
	for _, a := range append(samples(), ends()...) {
		n := number(a)
		got, ok := Int(a)
		if ok != n.IsInt64() || ok && int64(got) != n.Int64() || !ok && got != 0 {
			t.Errorf("Int(%x) = %d, %t", a, got, ok)
		}
		if n.IsUint64() {
			is(t, Of(n.Uint64()), n, "Of", a)
		}
	}
}
