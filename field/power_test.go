package field

import (
	"math"
	"math/big"
	"testing"

	"corsned/api"
)

// powered holds Pow against the power of numbers without bounds.
func powered(t *testing.T, a api.Scalar, n uint64) {
	t.Helper()
	want := api.Scalar(new(big.Int).Exp(whole(a), new(big.Int).SetUint64(n), big.NewInt(order)).Uint64())
	if got := Pow(a, n); got != want {
		t.Errorf("Pow(%d, %d) = %d, not %d", a, n, got, want)
	}
}

// inverted holds Inv of a scalar, which is 0 or not, against that of numbers without bounds.
func inverted(t *testing.T, a api.Scalar) {
	t.Helper()
	got, ok := Inv(a)
	inverse := new(big.Int).ModInverse(whole(a), big.NewInt(order))
	if inverse == nil {
		if got != 0 || ok {
			t.Errorf("Inv(%d) = %d, %t, though it is 0", a, got, ok)
		}
		return
	}
	if want := api.Scalar(inverse.Uint64()); got != want || !ok {
		t.Errorf("Inv(%d) = %d, %t, not %d", a, got, ok, want)
	}
	if one := Mul(a, got); one != 1 {
		t.Errorf("Inv(%d) = %d, and their product is %d", a, got, one)
	}
}

// P5.2

func TestPowOfExamples(t *testing.T) {
	for _, x := range []struct {
		a    api.Scalar
		n    uint64
		want api.Scalar
	}{
		{0, 0, 1},
		{0, 1, 0},
		{0, 2, 0},
		{0, 62, 0},
		{0, order - 1, 0},
		{0, order, 0},
		{0, math.MaxUint64, 0},
		{1, 0, 1},
		{1, 1, 1},
		{1, 62, 1},
		{1, math.MaxUint64, 1},
		{2, 0, 1},
		{2, 1, 2},
		{2, 60, 1 << 60},
		{2, 61, 5283},
		{2, 62, 10566},
		{2, 64, 42264},
		{3, 4, 81},
		{2, order - 1, 1},
		{2, order, 2},
		{2, order - 2, 1152921504606844335},
		{order - 1, 0, 1},
		{order - 1, 1, order - 1},
		{order - 1, 2, 1},
		{order - 1, 62, 1},
		{order - 1, order - 1, 1},
		{order - 1, math.MaxUint64, order - 1},
		{order, 0, 1},
		{order, 1, 0},
		{order, 62, 0},
		{order, order - 1, 0},
		{order, math.MaxUint64, 0},
		{8 * order, 0, 1},
		{8 * order, 5, 0},
		{order + 1, math.MaxUint64, 1},
		{order + 2, 62, 10566},
		{math.MaxUint64, 0, 1},
		{math.MaxUint64, 1, 42263},
		{math.MaxUint64, 2, 1786161169},
	} {
		if got := Pow(x.a, x.n); got != x.want {
			t.Errorf("Pow(%d, %d) = %d, not %d", x.a, x.n, got, x.want)
		}
		powered(t, x.a, x.n)
	}
}

// As a power is said: 1, times a, so often.
func TestPowIsAProductOfMany(t *testing.T) {
	for _, a := range few() {
		want := api.Scalar(1)
		for n := range uint64(300) {
			if got := Pow(a, n); got != want {
				t.Fatalf("Pow(%d, %d) = %d, not %d", a, n, got, want)
			}
			want = modulo(new(big.Int).Mul(whole(want), whole(a)))
		}
	}
}

func TestPowOfEdges(t *testing.T) {
	numbers := []uint64{0, 1, 2, 3, 61, 62, 63, 64, 1<<32 - 1, 1 << 32, order - 2, order - 1, order, order + 1, 2*order - 2, 1<<63 - 1, 1 << 63, 8 * order, math.MaxUint64 - 1, math.MaxUint64}
	for _, a := range edges() {
		for _, n := range numbers {
			powered(t, a, n)
		}
	}
	for _, n := range edges() {
		for _, a := range few() {
			powered(t, a, uint64(n))
		}
	}
}

func TestPowOfMany(t *testing.T) {
	some := chance()
	for range 3000 {
		powered(t, some(), uint64(some()))
	}
}

func TestInvOfExamples(t *testing.T) {
	for _, x := range []struct {
		a, want api.Scalar
		ok      bool
	}{
		{0, 0, false},
		{1, 1, true},
		{2, 1152921504606844335, true},
		{1152921504606844335, 2, true},
		{order - 2, 1152921504606844334, true},
		{order - 1, order - 1, true},
		{order, 0, false},
		{order + 1, 1, true},
		{order + 2, 1152921504606844335, true},
		{2*order - 1, order - 1, true},
		{2 * order, 0, false},
		{2*order + 1, 1, true},
		{8*order - 1, order - 1, true},
		{8 * order, 0, false},
		{8*order + 1, 1, true},
		{8*order + 2, 1152921504606844335, true},
	} {
		got, ok := Inv(x.a)
		if got != x.want || ok != x.ok {
			t.Errorf("Inv(%d) = %d, %t, not %d, %t", x.a, got, ok, x.want, x.ok)
		}
		inverted(t, x.a)
	}
}

func TestInvOfMany(t *testing.T) {
	for _, a := range edges() {
		inverted(t, a)
	}
	for a := range api.Scalar(500) {
		inverted(t, a)
	}
	some := chance()
	for range 5000 {
		inverted(t, some())
	}
}
