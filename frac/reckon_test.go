package frac

import (
	"math"
	"math/big"
	"slices"
	"testing"

	"corsned/api"
)

// each holds something of all pairs of samples.
func each(hold func(a, b api.Frac)) {
	l := samples()
	for _, a := range l {
		for _, b := range l {
			hold(a, b)
		}
	}
}

// of tells n over d.
func of(n, d int64) api.Frac {
	return fraction(big.NewRat(n, d))
}

// P3.2

func TestReckoningOfExamples(t *testing.T) {
	for _, x := range []struct {
		a, b           api.Frac
		cmp            int
		sum, product   *big.Rat
		less, quotient *big.Rat
	}{
		{of(0, 1), of(0, 1), 0, big.NewRat(0, 1), big.NewRat(0, 1), big.NewRat(0, 1), nil},
		{of(3, 2), of(0, 1), 1, big.NewRat(3, 2), big.NewRat(0, 1), big.NewRat(3, 2), nil},
		{of(0, 1), of(3, 2), -1, big.NewRat(3, 2), big.NewRat(0, 1), nil, big.NewRat(0, 1)},
		{of(1, 2), of(1, 3), 1, big.NewRat(5, 6), big.NewRat(1, 6), big.NewRat(1, 6), big.NewRat(3, 2)},
		{of(1, 3), of(1, 2), -1, big.NewRat(5, 6), big.NewRat(1, 6), nil, big.NewRat(2, 3)},
		{of(3, 7), of(3, 7), 0, big.NewRat(6, 7), big.NewRat(9, 49), big.NewRat(0, 1), big.NewRat(1, 1)},
		{of(1, 6), of(1, 10), 1, big.NewRat(4, 15), big.NewRat(1, 60), big.NewRat(1, 15), big.NewRat(5, 3)},
		{of(4, 9), of(3, 8), 1, big.NewRat(59, 72), big.NewRat(1, 6), big.NewRat(5, 72), big.NewRat(32, 27)},
		{of(5, 1), of(2, 1), 1, big.NewRat(7, 1), big.NewRat(10, 1), big.NewRat(3, 1), big.NewRat(5, 2)},
		{of(1, 1<<32), of(1, 1<<32), 0, big.NewRat(1, 1<<31), new(big.Rat).SetFrac(big.NewInt(1), new(big.Int).Lsh(big.NewInt(1), 64)), big.NewRat(0, 1), big.NewRat(1, 1)},
	} {
		if got := Cmp(x.a, x.b); got != x.cmp {
			t.Errorf("Cmp(%x, %x) = %d", x.a, x.b, got)
		}
		is(t, Add(x.a, x.b), x.sum, "Add", x.a, x.b)
		is(t, Mul(x.a, x.b), x.product, "Mul", x.a, x.b)
		less, ok := Sub(x.a, x.b)
		perhaps(t, less, ok, x.less, "Sub", x.a, x.b)
		quotient, ok := Quo(x.a, x.b)
		perhaps(t, quotient, ok, x.quotient, "Quo", x.a, x.b)
	}
}

// perhaps holds what was told against the number that it is to be, or, if there is none, against nought and false.
func perhaps(t *testing.T, got api.Frac, ok bool, want *big.Rat, what string, from ...any) {
	t.Helper()
	if ok != (want != nil) {
		t.Fatalf("%s of %x: %t", what, from, ok)
	}
	if want == nil {
		want = new(big.Rat)
	}
	is(t, got, want, what, from...)
}

func TestCmp(t *testing.T) {
	each(func(a, b api.Frac) {
		if got := Cmp(a, b); got != rat(a).Cmp(rat(b)) {
			t.Fatalf("Cmp(%x, %x) = %d", a, b, got)
		}
	})
}

func TestSumsAndProducts(t *testing.T) {
	each(func(a, b api.Frac) {
		is(t, Add(a, b), new(big.Rat).Add(rat(a), rat(b)), "Add", a, b)
		is(t, Mul(a, b), new(big.Rat).Mul(rat(a), rat(b)), "Mul", a, b)
	})
}

func TestDifferencesAndQuotients(t *testing.T) {
	each(func(a, b api.Frac) {
		var less, quotient *big.Rat
		if rat(b).Cmp(rat(a)) <= 0 {
			less = new(big.Rat).Sub(rat(a), rat(b))
		}
		if rat(b).Sign() > 0 {
			quotient = new(big.Rat).Quo(rat(a), rat(b))
		}
		got, ok := Sub(a, b)
		perhaps(t, got, ok, less, "Sub", a, b)
		got, ok = Quo(a, b)
		perhaps(t, got, ok, quotient, "Quo", a, b)
	})
}

// P3.3

func TestFloorOfExamples(t *testing.T) {
	for _, x := range []struct {
		a    api.Frac
		want []uint32
	}{
		{of(0, 1), nil},
		{of(1, 2), nil},
		{of(6, 7), nil},
		{of(math.MaxInt64-1, math.MaxInt64), nil},
		{of(1, 1), []uint32{1}},
		{of(8, 7), []uint32{1}},
		{of(13, 7), []uint32{1}},
		{of(2, 1), []uint32{2}},
		{of(15, 7), []uint32{2}},
		{of(1<<33+1, 2), []uint32{0, 1}},
		{of(1<<33-1, 2), []uint32{math.MaxUint32}},
		{api.Frac{Num: []uint32{9}, Den: []uint32{3}}, nil},
		{api.Frac{Num: []uint32{9}, Den: []uint32{1, 0}}, nil},
		{api.Frac{Num: []uint32{9}}, nil},
	} {
		if got := Floor(x.a); !slices.Equal(got, x.want) {
			t.Errorf("Floor(%x) = %x", x.a, got)
		}
	}
}

func TestFloor(t *testing.T) {
	for _, a := range samples() {
		r := rat(a)
		want := new(big.Int).Quo(r.Num(), r.Denom())
		if got := Floor(a); !slices.Equal(got, natural(want)) {
			t.Errorf("Floor(%x) = %x", a, got)
		}
	}
}

// power tells r times itself, n of them.
func power(r *big.Rat, n int) *big.Rat {
	e := big.NewInt(int64(n))
	return new(big.Rat).SetFrac(new(big.Int).Exp(r.Num(), e, nil), new(big.Int).Exp(r.Denom(), e, nil))
}

func TestPowOfExamples(t *testing.T) {
	wide := new(big.Int).Lsh(big.NewInt(1), 64)
	for _, x := range []struct {
		a    api.Frac
		n    int
		want *big.Rat
	}{
		{of(2, 3), 0, big.NewRat(1, 1)},
		{of(2, 3), 1, big.NewRat(2, 3)},
		{of(2, 3), 2, big.NewRat(4, 9)},
		{of(2, 3), 5, big.NewRat(32, 243)},
		{of(3, 1), 4, big.NewRat(81, 1)},
		{of(0, 1), 0, big.NewRat(1, 1)},
		{of(0, 1), 1, big.NewRat(0, 1)},
		{of(0, 1), 64, big.NewRat(0, 1)},
		{of(1, 1), 64, big.NewRat(1, 1)},
		{of(2, 1), 63, new(big.Rat).SetInt(new(big.Int).Rsh(wide, 1))},
		{of(2, 1), 64, new(big.Rat).SetInt(wide)},
		{of(1, 2), 64, new(big.Rat).SetFrac(big.NewInt(1), wide)},
		{of(2, 3), 65, nil},
		{of(2, 3), 66, nil},
		{of(2, 3), -1, nil},
		{of(1, 1), 65, nil},
		{of(1, 1), -1, nil},
		{of(0, 1), -1, nil},
		{of(2, 3), math.MaxInt, nil},
		{of(2, 3), math.MinInt, nil},
		{api.Frac{Num: []uint32{4}, Den: []uint32{2}}, 0, big.NewRat(1, 1)},
		{api.Frac{Num: []uint32{4}, Den: []uint32{2}}, 3, big.NewRat(0, 1)},
		{api.Frac{}, 0, big.NewRat(1, 1)},
		{api.Frac{}, 1, big.NewRat(0, 1)},
		{api.Frac{}, 65, nil},
	} {
		got, ok := Pow(x.a, x.n)
		perhaps(t, got, ok, x.want, "Pow", x.a, x.n)
	}
}

func TestPow(t *testing.T) {
	for _, a := range samples() {
		for _, n := range []int{0, 1, 2, 3, 7, 32, 63, 64} {
			got, ok := Pow(a, n)
			perhaps(t, got, ok, power(rat(a), n), "Pow", a, n)
		}
		for _, n := range []int{-64, -1, 65, 128} {
			got, ok := Pow(a, n)
			perhaps(t, got, ok, nil, "Pow", a, n)
		}
	}
}

// P3.6

// few are some fractions of all kinds, of which all threes can be held.
func few() []api.Frac {
	l := []api.Frac{{}, {Num: []uint32{2}, Den: []uint32{4}}, of(0, 1), of(1, 1), of(2, 1), of(1, 2), of(3, 4), of(5, 6), of(7, 10), of(1<<32, 3), of(1, 1<<32+1), of(math.MaxInt64, 1<<62)}
	return append(l, long()[:3]...)
}

// same holds two fractions that were told against each other.
func same(t *testing.T, got, want api.Frac, what string, from ...api.Frac) {
	t.Helper()
	if !slices.Equal(got.Num, want.Num) || !slices.Equal(got.Den, want.Den) {
		t.Fatalf("%s of %x: %x and %x", what, from, got, want)
	}
}

func TestNoOrderAndNoBracketsMatter(t *testing.T) {
	for _, a := range few() {
		for _, b := range few() {
			same(t, Add(a, b), Add(b, a), "a sum the other way round", a, b)
			same(t, Mul(a, b), Mul(b, a), "a product the other way round", a, b)
			for _, c := range few() {
				same(t, Add(Add(a, b), c), Add(a, Add(b, c)), "a sum with other brackets", a, b, c)
				same(t, Mul(Mul(a, b), c), Mul(a, Mul(b, c)), "a product with other brackets", a, b, c)
				same(t, Mul(Add(a, b), c), Add(Mul(a, c), Mul(b, c)), "a product of a sum", a, b, c)
			}
		}
	}
}

func TestWhatWasAddedAndMultipliedIsTakenBack(t *testing.T) {
	each(func(a, b api.Frac) {
		less, ok := Sub(Add(a, b), b)
		perhaps(t, less, ok, rat(a), "a sum less what was added", a, b)
		if quotient, ok := Quo(Mul(a, b), b); ok {
			is(t, quotient, rat(a), "a product by what it was multiplied by", a, b)
		} else if rat(b).Sign() != 0 {
			t.Fatalf("%x times %x, divided by that: none", a, b)
		}
	})
}
