package field

import (
	"math"
	"sync"
	"testing"

	"corsned/api"
)

// held holds what two answers have to be: one and the same.
func held(t *testing.T, what string, one, other api.Scalar, of ...api.Scalar) {
	t.Helper()
	if one != other || !Right(one) {
		t.Errorf("%s: %d and %d, of %d", what, one, other, of)
	}
}

// ofThree holds the laws of sums and products.
func ofThree(t *testing.T, a, b, c api.Scalar) {
	t.Helper()
	held(t, "a + b = b + a", Add(a, b), Add(b, a), a, b)
	held(t, "ab = ba", Mul(a, b), Mul(b, a), a, b)
	held(t, "(a + b) + c = a + (b + c)", Add(Add(a, b), c), Add(a, Add(b, c)), a, b, c)
	held(t, "(ab)c = a(bc)", Mul(Mul(a, b), c), Mul(a, Mul(b, c)), a, b, c)
	held(t, "a(b + c) = ab + ac", Mul(a, Add(b, c)), Add(Mul(a, b), Mul(a, c)), a, b, c)
	held(t, "a(b - c) = ab - ac", Mul(a, Sub(b, c)), Sub(Mul(a, b), Mul(a, c)), a, b, c)
	held(t, "(a - b) - c = a - (b + c)", Sub(Sub(a, b), c), Sub(a, Add(b, c)), a, b, c)
}

// ofTwo holds the laws of differences and quotients.
func ofTwo(t *testing.T, a, b api.Scalar) {
	t.Helper()
	held(t, "a - b = a + -b", Sub(a, b), Add(a, Neg(b)), a, b)
	held(t, "a - b = -(b - a)", Sub(a, b), Neg(Sub(b, a)), a, b)
	held(t, "(a - b) + b = a", Add(Sub(a, b), b), a%order, a, b)
	held(t, "(a + b) - b = a", Sub(Add(a, b), b), a%order, a, b)
	held(t, "(-a)b = -(ab)", Mul(Neg(a), b), Neg(Mul(a, b)), a, b)
	held(t, "(-a)(-b) = ab", Mul(Neg(a), Neg(b)), Mul(a, b), a, b)
	if (Mul(a, b) == 0) != (a%order == 0 || b%order == 0) {
		t.Errorf("Mul(%d, %d) = %d", a, b, Mul(a, b))
	}
	if inverse, ok := Inv(b); ok {
		held(t, "(a/b)b = a", Mul(Mul(a, inverse), b), a%order, a, b)
	}
}

// ofOne holds the laws of 0, of 1, of what goes against a, and of its powers.
func ofOne(t *testing.T, a api.Scalar) {
	t.Helper()
	held(t, "a + 0 = a", Add(a, 0), a%order, a)
	held(t, "a - 0 = a", Sub(a, 0), a%order, a)
	held(t, "a - a = 0", Sub(a, a), 0, a)
	held(t, "0 - a = -a", Sub(0, a), Neg(a), a)
	held(t, "a + -a = 0", Add(a, Neg(a)), 0, a)
	held(t, "-(-a) = a", Neg(Neg(a)), a%order, a)
	held(t, "0a = 0", Mul(0, a), 0, a)
	held(t, "1a = a", Mul(1, a), a%order, a)
	held(t, "2a = a + a", Mul(2, a), Add(a, a), a)
	held(t, "-1a = -a", Mul(order-1, a), Neg(a), a)
	held(t, "aa = a^2", Mul(a, a), Pow(a, 2), a)
	held(t, "a^Order = a", Pow(a, order), a%order, a)
	if a%order != 0 {
		held(t, "a^(Order-1) = 1", Pow(a, order-1), 1, a)
	}
	if inverse, ok := Inv(a); ok {
		again, ok := Inv(inverse)
		held(t, "1/(1/a) = a", again, a%order, a)
		held(t, "a(1/a) = 1", Mul(a, inverse), 1, a)
		if !ok || !Right(inverse) || inverse == 0 {
			t.Errorf("Inv(%d) = %d", a, inverse)
		}
	} else if a%order != 0 {
		t.Errorf("Inv(%d): there is none", a)
	}
}

// ofPowers holds the laws of powers.
func ofPowers(t *testing.T, a, b api.Scalar, m, n uint64) {
	t.Helper()
	held(t, "(ab)^m = a^m b^m", Pow(Mul(a, b), m), Mul(Pow(a, m), Pow(b, m)), a, b, api.Scalar(m))
	if n <= math.MaxUint64-m {
		held(t, "a^(m+n) = a^m a^n", Pow(a, m+n), Mul(Pow(a, m), Pow(a, n)), a, api.Scalar(m), api.Scalar(n))
	}
	m, n = m>>32, n>>32
	held(t, "a^(mn) = (a^m)^n", Pow(a, m*n), Pow(Pow(a, m), n), a, api.Scalar(m), api.Scalar(n))
}

// P5.4

func TestLawsOfEdges(t *testing.T) {
	l := few()
	for _, a := range l {
		for _, b := range l {
			for _, c := range l {
				ofThree(t, a, b, c)
			}
			ofTwo(t, a, b)
			ofPowers(t, a, b, uint64(b), uint64(a))
		}
	}
	for _, a := range edges() {
		ofOne(t, a)
	}
}

func TestLawsOfMany(t *testing.T) {
	some := chance()
	for range 20000 {
		ofThree(t, some(), some(), some())
	}
	for range 3000 {
		ofTwo(t, some(), some())
		ofOne(t, some())
		ofPowers(t, some(), some(), uint64(some()), uint64(some()))
	}
}

// A scalar that is not right counts as what is left of it, in each place in which one is handed in.
func TestWhatIsLeftCounts(t *testing.T) {
	some := chance()
	for range 3000 {
		a, b := some()%order, some()%order
		n := uint64(some())
		for times := range api.Scalar(8) {
			more, other := a+times*order, b+(7-times)*order
			held(t, "Add", Add(more, other), Add(a, b), more, other)
			held(t, "Sub", Sub(more, other), Sub(a, b), more, other)
			held(t, "Mul", Mul(more, other), Mul(a, b), more, other)
			held(t, "Neg", Neg(more), Neg(a), more)
			held(t, "Pow", Pow(more, n), Pow(a, n), more, api.Scalar(n))
			got, gotOK := Inv(more)
			want, wantOK := Inv(a)
			held(t, "Inv", got, want, more)
			if gotOK != wantOK || Right(more) != (times == 0) {
				t.Errorf("%d is not as %d", more, a)
			}
		}
	}
}

// What is told hangs on nothing that was asked ahead of it, or at the same time.
func TestNothingIsKept(t *testing.T) {
	var all sync.WaitGroup
	for range 8 {
		all.Go(func() {
			for _, a := range few() {
				ofOne(t, a)
				reckoned(t, a, a+1)
				inverted(t, a)
				from(t, api.Hash{7: byte(a), 31: byte(a)})
			}
		})
	}
	all.Wait()
}
