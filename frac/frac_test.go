package frac

import (
	"math"
	"math/big"
	"math/rand"
	"slices"
	"testing"

	"corsned/api"
)

// number tells the number without bounds of a natural's digits, whatever is on top.
func number(a []uint32) *big.Int {
	n := new(big.Int)
	for _, digit := range slices.Backward(a) {
		n.Lsh(n, 32)
		n.Or(n, big.NewInt(int64(digit)))
	}
	return n
}

// natural tells the digits of a number without bounds.
func natural(n *big.Int) []uint32 {
	a := []uint32{}
	for n = new(big.Int).Set(n); n.Sign() > 0; n.Rsh(n, 32) {
		a = append(a, uint32(n.Uint64()))
	}
	return a
}

// right tells whether a fraction is right, as the document's words say.
func right(a api.Frac) bool {
	for _, digits := range [][]uint32{a.Num, a.Den} {
		if len(digits) > 0 && digits[len(digits)-1] == 0 {
			return false
		}
	}
	common := new(big.Int).GCD(nil, nil, number(a.Num), number(a.Den))
	return len(a.Den) > 0 && common.Cmp(big.NewInt(1)) == 0
}

// rat tells the number that a fraction is; one that is not right is nought.
func rat(a api.Frac) *big.Rat {
	if !right(a) {
		return new(big.Rat)
	}
	return new(big.Rat).SetFrac(number(a.Num), number(a.Den))
}

// fraction tells the fraction that a number is.
func fraction(r *big.Rat) api.Frac {
	return api.Frac{Num: natural(r.Num()), Den: natural(r.Denom())}
}

// wrong are fractions that are not right.
func wrong() []api.Frac {
	return []api.Frac{
		{},
		{Num: []uint32{}, Den: []uint32{}},
		{Num: []uint32{1}},
		{Num: []uint32{7}, Den: []uint32{}},
		{Num: []uint32{1, 2, 3}},
		{Num: []uint32{1}, Den: []uint32{0}},
		{Num: []uint32{0}, Den: []uint32{1}},
		{Num: []uint32{5, 0}, Den: []uint32{1}},
		{Num: []uint32{5, 0}, Den: []uint32{3}},
		{Num: []uint32{5}, Den: []uint32{3, 0}},
		{Num: []uint32{1}, Den: []uint32{1, 0}},
		{Num: []uint32{5, 7, 0}, Den: []uint32{3, 0, 0}},
		{Num: []uint32{0}, Den: []uint32{0}},
		{Den: []uint32{2}},
		{Den: []uint32{0, 1}},
		{Num: []uint32{2}, Den: []uint32{2}},
		{Num: []uint32{2}, Den: []uint32{4}},
		{Num: []uint32{4}, Den: []uint32{2}},
		{Num: []uint32{21}, Den: []uint32{6}},
		{Num: []uint32{0, 1}, Den: []uint32{0, 0, 1}},
		{Num: []uint32{math.MaxUint32, math.MaxUint32}, Den: []uint32{math.MaxUint32}},
		{Num: []uint32{7, 14, 21}, Den: []uint32{14, 7}},
	}
}

// ends are fractions of all pairs of numbers at which something begins or ends.
func ends() []api.Frac {
	l := []api.Frac{}
	numbers := []uint64{0, 1, 2, 3, 10, 1<<32 - 1, 1 << 32, 1<<32 + 1, 1<<63 - 1, 1 << 63, 1<<64 - 1}
	for _, n := range numbers {
		for _, d := range numbers[1:] {
			r := new(big.Rat).SetFrac(new(big.Int).SetUint64(n), new(big.Int).SetUint64(d))
			if a := fraction(r); !slices.ContainsFunc(l, func(b api.Frac) bool { return rat(b).Cmp(r) == 0 }) {
				l = append(l, a)
			}
		}
	}
	return l
}

// long are fractions of many digits, some of which have divisors in common with others.
func long() []api.Frac {
	l := []api.Frac{}
	dice := rand.New(rand.NewSource(3))
	shared := new(big.Int).Exp(big.NewInt(30030), big.NewInt(9), nil)
	for size := uint(40); size < 900; size += 70 {
		n := new(big.Int).Rand(dice, new(big.Int).Lsh(big.NewInt(1), size))
		d := new(big.Int).Rand(dice, new(big.Int).Lsh(big.NewInt(1), 940-size))
		n.Add(n, big.NewInt(1))
		d.Add(d, big.NewInt(1))
		l = append(l, fraction(new(big.Rat).SetFrac(n, d)))
		l = append(l, fraction(new(big.Rat).SetFrac(new(big.Int).Mul(n, shared), d)))
		l = append(l, fraction(new(big.Rat).SetFrac(n, new(big.Int).Mul(d, shared))))
	}
	return l
}

// samples are fractions of all kinds, and those that are not right.
func samples() []api.Frac {
	return slices.Concat(wrong(), ends(), long())
}

// is holds a fraction that was told against the number that it is to be: right, and the same.
func is(t *testing.T, got api.Frac, want *big.Rat, what string, from ...any) {
	t.Helper()
	if a := fraction(want); !slices.Equal(got.Num, a.Num) || !slices.Equal(got.Den, a.Den) {
		t.Fatalf("%s of %x: %x, not %x", what, from, got, a)
	}
}

func TestSamplesAreOfAllKinds(t *testing.T) {
	for _, a := range wrong() {
		if right(a) {
			t.Errorf("%x is right", a)
		}
	}
	for _, a := range append(ends(), long()...) {
		if !right(a) {
			t.Errorf("%x is not right", a)
		}
	}
	if len(wrong()) < 20 || len(ends()) < 80 || len(long()) < 30 {
		t.Error(len(wrong()), len(ends()), len(long()))
	}
}

// P3.1

func TestRightOfExamples(t *testing.T) {
	for _, a := range []api.Frac{
		{Den: []uint32{1}},
		{Num: []uint32{}, Den: []uint32{1}},
		{Num: []uint32{1}, Den: []uint32{1}},
		{Num: []uint32{2}, Den: []uint32{1}},
		{Num: []uint32{1}, Den: []uint32{2}},
		{Num: []uint32{3}, Den: []uint32{2}},
		{Num: []uint32{0, 1}, Den: []uint32{1}},
		{Num: []uint32{1}, Den: []uint32{0, 0, 1}},
		{Num: []uint32{0, 0, 1}, Den: []uint32{math.MaxUint32}},
		{Num: []uint32{math.MaxUint32, math.MaxUint32}, Den: []uint32{0, 1}},
	} {
		if !Right(a) {
			t.Errorf("%x is not right", a)
		}
	}
}

func TestRightOfAllSamples(t *testing.T) {
	for _, a := range samples() {
		if Right(a) != right(a) {
			t.Errorf("Right(%x) = %t", a, Right(a))
		}
	}
	// What is both is divided by itself, even where it is the same memory.
	same := []uint32{5, 7}
	if Right(api.Frac{Num: same, Den: same}) {
		t.Error("the same over the same is right")
	}
}

func TestOfOfExamples(t *testing.T) {
	for _, x := range []struct {
		n, d     uint64
		num, den []uint32
		ok       bool
	}{
		{6, 4, []uint32{3}, []uint32{2}, true},
		{4, 6, []uint32{2}, []uint32{3}, true},
		{7, 1, []uint32{7}, []uint32{1}, true},
		{7, 7, []uint32{1}, []uint32{1}, true},
		{0, 1, nil, []uint32{1}, true},
		{0, 7, nil, []uint32{1}, true},
		{0, math.MaxUint64, nil, []uint32{1}, true},
		{1, math.MaxUint64, []uint32{1}, []uint32{math.MaxUint32, math.MaxUint32}, true},
		{math.MaxUint64, 1, []uint32{math.MaxUint32, math.MaxUint32}, []uint32{1}, true},
		{math.MaxUint64, math.MaxUint64, []uint32{1}, []uint32{1}, true},
		{math.MaxUint64 - 1, math.MaxUint64, []uint32{math.MaxUint32 - 1, math.MaxUint32}, []uint32{math.MaxUint32, math.MaxUint32}, true},
		{math.MaxUint64, 1<<32 - 1, []uint32{1, 1}, []uint32{1}, true},
		{1 << 32, 1 << 33, []uint32{1}, []uint32{2}, true},
		{1, 0, nil, []uint32{1}, false},
		{0, 0, nil, []uint32{1}, false},
		{math.MaxUint64, 0, nil, []uint32{1}, false},
	} {
		got, ok := Of(x.n, x.d)
		if !slices.Equal(got.Num, x.num) || !slices.Equal(got.Den, x.den) || ok != x.ok {
			t.Errorf("Of(%d, %d) = %x, %t", x.n, x.d, got, ok)
		}
	}
}

func TestOfAllSmallNumbers(t *testing.T) {
	for n := range uint64(40) {
		for d := uint64(1); d < 40; d++ {
			got, ok := Of(n, d)
			is(t, got, big.NewRat(int64(n), int64(d)), "Of", n, d)
			if !ok {
				t.Errorf("Of(%d, %d): none", n, d)
			}
		}
	}
}

func TestWhole(t *testing.T) {
	for _, n := range [][]uint32{nil, {}, {1}, {7}, {0, 1}, {math.MaxUint32, math.MaxUint32}, {0, 0, 0, 1}, {1, 2, 3, 4, 5, 6, 7}} {
		is(t, Whole(n), new(big.Rat).SetInt(number(n)), "Whole", n)
	}
	for _, n := range [][]uint32{{0}, {0, 0}, {5, 0}, {0, 7, 0}, {1, 2, 3, 0}, {math.MaxUint32, 0, 0}} {
		is(t, Whole(n), new(big.Rat), "Whole", n)
	}
}
