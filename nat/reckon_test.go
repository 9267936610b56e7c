package nat

import (
	"math"
	"math/big"
	"slices"
	"testing"
)

// each holds something of all pairs of samples, and of all pairs of ends.
func each(hold func(a, b []uint32)) {
	for _, l := range [][][]uint32{samples(), ends()} {
		for _, a := range l {
			for _, b := range l {
				hold(a, b)
			}
		}
	}
}

// P2.2

func TestADigitAndOneMore(t *testing.T) {
	is(t, Add([]uint32{math.MaxUint32}, []uint32{1}), power(32, 0), "Add")
	is(t, Add([]uint32{1}, []uint32{math.MaxUint32, math.MaxUint32}), power(64, 0), "Add")
	is(t, Add([]uint32{math.MaxUint32}, []uint32{math.MaxUint32}), power(33, -2), "Add")
	is(t, Mul([]uint32{math.MaxUint32}, []uint32{math.MaxUint32}), new(big.Int).Add(power(64, 1), new(big.Int).Neg(power(33, 0))), "Mul")
	less, ok := Sub([]uint32{0, 0, 1}, []uint32{1})
	is(t, less, power(64, -1), "Sub")
	if !ok {
		t.Error("no difference")
	}
}

func TestSumsAndProducts(t *testing.T) {
	each(func(a, b []uint32) {
		is(t, Add(a, b), new(big.Int).Add(number(a), number(b)), "Add", a, b)
		is(t, Mul(a, b), new(big.Int).Mul(number(a), number(b)), "Mul", a, b)
	})
}

func TestDifferences(t *testing.T) {
	each(func(a, b []uint32) {
		want := new(big.Int).Sub(number(a), number(b))
		got, ok := Sub(a, b)
		if ok != (want.Sign() >= 0) {
			t.Fatalf("Sub(%x, %x): %t", a, b, ok)
		}
		if !ok {
			want.SetInt64(0)
		}
		is(t, got, want, "Sub", a, b)
	})
}

func TestDifferencesOfExamples(t *testing.T) {
	for _, x := range []struct {
		a, b []uint32
		want int64
		ok   bool
	}{
		{nil, nil, 0, true},
		{[]uint32{3}, nil, 3, true},
		{[]uint32{3}, []uint32{3}, 0, true},
		{[]uint32{3}, []uint32{4}, 0, false},
		{nil, []uint32{1}, 0, false},
		{[]uint32{9, 0}, []uint32{1}, 0, false},
		{[]uint32{9, 0}, []uint32{8, 0}, 0, true},
		{[]uint32{9, 0}, []uint32{10, 0}, 0, true},
		{[]uint32{3}, []uint32{4, 0}, 3, true},
		{[]uint32{math.MaxUint32}, []uint32{0, 1}, 0, false},
		{[]uint32{0, 1}, []uint32{math.MaxUint32}, 1, true},
	} {
		got, ok := Sub(x.a, x.b)
		is(t, got, big.NewInt(x.want), "Sub", x.a, x.b)
		if ok != x.ok {
			t.Errorf("Sub(%x, %x): %t", x.a, x.b, ok)
		}
	}
}

// P2.3

// divided holds what is told of a and b against numbers without bounds.
func divided(t *testing.T, a, b []uint32) {
	t.Helper()
	quotient, rest, ok := DivMod(a, b)
	if number(b).Sign() == 0 {
		if len(quotient) != 0 || len(rest) != 0 || ok {
			t.Fatalf("DivMod(%x, %x) = %x, %x, %t", a, b, quotient, rest, ok)
		}
		return
	}
	q, r := new(big.Int).QuoRem(number(a), number(b), new(big.Int))
	is(t, quotient, q, "quotient", a, b)
	is(t, rest, r, "rest", a, b)
	if !ok {
		t.Fatalf("DivMod(%x, %x): none", a, b)
	}
}

func TestQuotientsOfExamples(t *testing.T) {
	quotient, rest, ok := DivMod([]uint32{0, 0, 1}, []uint32{10})
	is(t, quotient, big.NewInt(1844674407370955161), "quotient")
	is(t, rest, big.NewInt(6), "rest")
	if !ok {
		t.Error("none")
	}
	for _, x := range []struct {
		a, b []uint32
		q, r int64
		ok   bool
	}{
		{nil, []uint32{1}, 0, 0, true},
		{[]uint32{7}, []uint32{1}, 7, 0, true},
		{[]uint32{7}, []uint32{7}, 1, 0, true},
		{[]uint32{7}, []uint32{8}, 0, 7, true},
		{[]uint32{7}, []uint32{2}, 3, 1, true},
		{[]uint32{7}, []uint32{0, 1}, 0, 7, true},
		{[]uint32{3, 1}, []uint32{0, 1}, 1, 3, true},
		{[]uint32{7, 0}, []uint32{3}, 0, 0, true},
		{[]uint32{7}, nil, 0, 0, false},
		{[]uint32{7}, []uint32{0}, 0, 0, false},
		{[]uint32{7}, []uint32{3, 0}, 0, 0, false},
		{nil, nil, 0, 0, false},
		{[]uint32{7, 0}, []uint32{7, 0}, 0, 0, false},
	} {
		quotient, rest, ok := DivMod(x.a, x.b)
		is(t, quotient, big.NewInt(x.q), "quotient", x.a, x.b)
		is(t, rest, big.NewInt(x.r), "rest", x.a, x.b)
		if ok != x.ok {
			t.Errorf("DivMod(%x, %x): %t", x.a, x.b, ok)
		}
	}
}

// A first guess out of the top digits is right, 1 too great, 2 too great, or greater than a digit can be.
func TestQuotientsWhoseFirstGuessMisses(t *testing.T) {
	for _, x := range []struct {
		a, b []uint32
		want int64
	}{
		{[]uint32{5, 1 << 31, 1}, []uint32{0, 1 << 31}, 3},
		{[]uint32{0, 1 << 31}, []uint32{1, 1 << 31}, 0},
		{[]uint32{0, 0, 1}, []uint32{1, 1 << 31}, 1},
		{[]uint32{2, 1 << 31, 1}, []uint32{1, 1 << 31}, 2},
		{[]uint32{0, 0, 1<<31 - 1}, []uint32{1<<32 - 2, 1 << 31}, 1<<32 - 4},
		{[]uint32{1 << 31, 0, 1<<31 - 1}, []uint32{1<<32 - 2, 1 << 31}, 1<<32 - 4},
		{[]uint32{0, 1<<32 - 1, 1<<31 - 1}, []uint32{1<<32 - 1, 1 << 31}, 1<<32 - 2},
		{[]uint32{0, 0, 1 << 31}, []uint32{1, 1 << 31}, 1<<32 - 1},
		{[]uint32{0, 0, 1 << 31}, []uint32{1<<32 - 1, 1 << 31}, 1<<32 - 2},
		{[]uint32{math.MaxUint32, 0, 1 << 31}, []uint32{1, 1 << 31}, 1<<32 - 1},
	} {
		quotient, _, _ := DivMod(x.a, x.b)
		is(t, quotient, big.NewInt(x.want), "quotient", x.a, x.b)
		divided(t, x.a, x.b)
	}
	// The same with digits below them, whose guesses may miss, too.
	for _, low := range [][]uint32{{}, {0}, {math.MaxUint32}, {0, 1 << 31}, {math.MaxUint32, math.MaxUint32}} {
		for _, high := range ends() {
			for _, b := range [][]uint32{{1, 1 << 31}, {1<<32 - 2, 1 << 31}, {math.MaxUint32, 1 << 31}, {math.MaxUint32, 0, 1 << 31}, {math.MaxUint32, 1}, {math.MaxUint32, 0, 1}} {
				divided(t, slices.Concat(low, high), b)
			}
		}
	}
}

func TestQuotients(t *testing.T) {
	each(func(a, b []uint32) { divided(t, a, b) })
}

func TestGcdOfExamples(t *testing.T) {
	for _, x := range []struct {
		a, b []uint32
		want *big.Int
	}{
		{nil, nil, big.NewInt(0)},
		{[]uint32{}, []uint32{0}, big.NewInt(0)},
		{[]uint32{5, 0}, []uint32{7, 0}, big.NewInt(0)},
		{[]uint32{5}, nil, big.NewInt(5)},
		{nil, []uint32{5}, big.NewInt(5)},
		{[]uint32{5}, []uint32{7, 0}, big.NewInt(5)},
		{[]uint32{7, 0}, []uint32{5}, big.NewInt(5)},
		{[]uint32{12}, []uint32{18}, big.NewInt(6)},
		{[]uint32{18}, []uint32{12}, big.NewInt(6)},
		{[]uint32{7}, []uint32{9}, big.NewInt(1)},
		{[]uint32{1}, []uint32{0, 0, 0, 1}, big.NewInt(1)},
		{nil, []uint32{3, 0, 0, 1}, power(96, 3)},
		{[]uint32{0, 0, 0, 6}, []uint32{0, 0, 0, 4}, power(97, 0)},
		{[]uint32{0, 0, 0, 1}, []uint32{0, 1}, power(32, 0)},
	} {
		is(t, Gcd(x.a, x.b), x.want, "Gcd", x.a, x.b)
	}
}

func TestGcds(t *testing.T) {
	each(func(a, b []uint32) {
		is(t, Gcd(a, b), new(big.Int).GCD(nil, nil, number(a), number(b)), "Gcd", a, b)
	})
	// Those of samples alone have few divisors in common.
	for _, c := range [][]uint32{{2}, {math.MaxUint32}, {0, 1}, {3, 1 << 31}, {7, 0, 0, 9}} {
		for _, a := range samples() {
			for _, b := range [][]uint32{{1}, {10}, {1, 1}, {5, 6, 7}, {0, 0, 0, 0, 0, 1}} {
				x, y := Mul(a, c), Mul(b, c)
				is(t, Gcd(x, y), new(big.Int).GCD(nil, nil, number(x), number(y)), "Gcd", x, y)
			}
		}
	}
}

// Two Fibonacci numbers that follow each other take the most steps.
func TestGcdOfManySteps(t *testing.T) {
	a, b := Of(1), Of(1)
	for range 5000 {
		a, b = b, Add(a, b)
	}
	is(t, Gcd(a, b), big.NewInt(1), "Gcd")
	is(t, Gcd(Mul(b, Of(6)), Mul(a, Of(6))), big.NewInt(6), "Gcd")
}

// P2.5

func TestWhatIsDividedIsThereAgain(t *testing.T) {
	each(func(a, b []uint32) {
		quotient, rest, ok := DivMod(a, b)
		if !ok {
			return
		}
		is(t, Add(Mul(quotient, b), rest), number(a), "what was divided", a, b)
		if Cmp(rest, b) >= 0 {
			t.Fatalf("DivMod(%x, %x): %x is left", a, b, rest)
		}
	})
}

func TestSumsAndProductsGoAsThoseOfNumbers(t *testing.T) {
	c := []uint32{math.MaxUint32, 0, 1 << 31, 3}
	each(func(a, b []uint32) {
		sum, product := Add(a, b), Mul(a, b)
		is(t, Add(b, a), number(sum), "a sum the other way round", a, b)
		is(t, Mul(b, a), number(product), "a product the other way round", a, b)
		is(t, Add(Add(a, c), b), number(Add(sum, c)), "a sum with other brackets", a, b)
		is(t, Mul(sum, c), number(Add(Mul(a, c), Mul(b, c))), "a product of a sum", a, b)
		less, ok := Sub(sum, b)
		is(t, less, number(a), "a sum less what was added", a, b)
		if !ok {
			t.Fatalf("%x and %x, less that: none", a, b)
		}
	})
}
