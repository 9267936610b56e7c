package point

import (
	"math"
	"math/big"
	"math/rand"
	"testing"

	"corsned/api"
)

// powered tells k of a point, by numbers without bounds.
func powered(p api.Point, k api.Scalar) api.Point {
	n := new(big.Int).SetUint64(uint64(k))
	n.Mod(n, big.NewInt(order))
	return modulo(n.Exp(meant(p), n, big.NewInt(modulus)))
}

// scaled holds Scale, and Base, against the powers of numbers without bounds.
func scaled(t *testing.T, p api.Point, k api.Scalar) {
	t.Helper()
	if got, want := Scale(p, k), powered(p, k); got != want {
		t.Errorf("Scale(%d, %d) = %d, not %d", p, k, got, want)
	}
	if got, want := Base(k), powered(generator, k); got != want {
		t.Errorf("Base(%d) = %d, not %d", k, got, want)
	}
}

// scalars are the scalars at which something ends: those next to how often Order is in them, and to where a bit begins.
func scalars() []api.Scalar {
	var l []api.Scalar
	for times := range uint64(9) {
		// Eight times Order is the greatest of its multiples that has room in 64 bits.
		for off := range uint64(5) {
			l = append(l, api.Scalar(times*order+off-2))
		}
	}
	for bit := range 64 {
		n := api.Scalar(1) << bit
		l = append(l, n-1, n, n+1)
	}
	return append(l, order/2, order/2+1, modulus-1, modulus, modulus+1, math.MaxUint64-1, math.MaxUint64)
}

// P6.3

func TestBaseOfExamples(t *testing.T) {
	for _, x := range []struct {
		k    api.Scalar
		want api.Point
	}{
		{0, 1},
		{1, 4},
		{2, 16},
		{3, 64},
		{30, 1 << 60},
		{31, 10565},
		{32, 42260},
		{order / 2, order},
		{order/2 + 1, modulus - 2},
		{order - 2, 3746994889972244088},
		{order - 1, 1152921504606844335},
		{order, 1},
		{order + 1, 4},
		{order + 2, 16},
		{2*order - 1, 1152921504606844335},
		{2 * order, 1},
		{modulus, 4},
		{2*order + 2, 16},
		{8*order - 1, 1152921504606844335},
		{8 * order, 1},
		{8*order + 1, 4},
		{8*order + 31, 10565},
	} {
		if got := Base(x.k); got != x.want {
			t.Errorf("Base(%d) = %d, not %d", x.k, got, x.want)
		}
		scaled(t, generator, x.k)
	}
}

func TestScaleOfExamples(t *testing.T) {
	for _, x := range []struct {
		p    api.Point
		k    api.Scalar
		want api.Point
	}{
		{1, 0, 1},
		{1, 1, 1},
		{1, order - 1, 1},
		{1, math.MaxUint64, 1},
		{4, 0, 1},
		{4, 1, 4},
		{4, 2, 16},
		{4, 31, 10565},
		{4, order - 1, 1152921504606844335},
		{4, order, 1},
		{4, order + 1, 4},
		{4, 8*order + 2, 16},
		{3, 0, 1},
		{3, 1, 3},
		{3, 4, 81},
		{3, order - 1, 1537228672809125780},
		{3, order, 1},
		{3, order + 4, 81},
		{3, 8 * order, 1},
		{16, 3, 4096},
		{modulus - 2, 0, 1},
		{modulus - 2, 1, modulus - 2},
		{modulus - 2, 2, 4},
		{modulus - 2, 3, modulus - 8},
		{modulus - 2, order - 1, order},
		{modulus - 2, 2*order + 3, modulus - 8},
		// Those that are not right are taken as 1.
		{0, 0, 1},
		{0, 1, 1},
		{0, 5, 1},
		{0, order, 1},
		{2, 0, 1},
		{2, 1, 1},
		{2, 2, 1},
		{modulus - 1, 1, 1},
		{modulus - 1, 2, 1},
		{modulus - 4, 2, 1},
		{modulus, 0, 1},
		{modulus, 1, 1},
		{modulus + 1, 1, 1},
		{modulus + 4, 1, 1},
		{modulus + 4, 3, 1},
		{4*modulus + 4, 2, 1},
		{math.MaxUint64, 1, 1},
		{math.MaxUint64, math.MaxUint64, 1},
	} {
		if got := Scale(x.p, x.k); got != x.want {
			t.Errorf("Scale(%d, %d) = %d, not %d", x.p, x.k, got, x.want)
		}
		scaled(t, x.p, x.k)
	}
}

// As it is said: the sum of so many of it.
func TestScaleIsASumOfMany(t *testing.T) {
	for _, p := range few() {
		var l []api.Point
		for k := range api.Scalar(200) {
			if got, want := Scale(p, k), All(l...); got != want {
				t.Fatalf("Scale(%d, %d) = %d, not %d", p, k, got, want)
			}
			l = append(l, p)
		}
	}
}

func TestScaleOfEdges(t *testing.T) {
	for _, k := range scalars() {
		for _, p := range few() {
			scaled(t, p, k)
		}
	}
	for _, p := range edges() {
		for _, k := range []api.Scalar{0, 1, 2, 3, 61, 1<<32 + 5, order - 1, order, order + 1, 8*order - 1, 8*order + 3, math.MaxUint64} {
			scaled(t, p, k)
		}
	}
}

func TestScaleOfMany(t *testing.T) {
	some := chance()
	from := rand.New(rand.NewSource(64))
	for range 5000 {
		scaled(t, some(), api.Scalar(from.Uint64()))
	}
}
