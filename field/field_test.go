package field

import (
	"math"
	"math/big"
	"math/rand"
	"testing"

	"corsned/api"
)

// order is Order, written out.
const order = 2305843009213688669

// edges are the scalars at which something ends: those next to how often Order is in them, and to where a bit begins.
func edges() []api.Scalar {
	var l []api.Scalar
	for times := range uint64(9) {
		// Eight times Order is the greatest of its multiples that has room in 64 bits.
		for _, n := range []uint64{times*order - 2, times*order - 1, times * order, times*order + 1, times*order + 2} {
			l = append(l, api.Scalar(n))
		}
	}
	for bit := range 64 {
		n := api.Scalar(1) << bit
		l = append(l, n-1, n, n+1)
	}
	return append(l, order/2, order/2+1, math.MaxUint64-1, math.MaxUint64)
}

// few are the scalars that are held each with each, three at a time.
func few() []api.Scalar {
	return []api.Scalar{0, 1, 2, 3, 62, 1 << 31, 1<<32 + 5, order / 2, order/2 + 1, order - 2, order - 1, order, order + 1, 2*order - 1, 2 * order, 8 * order, math.MaxUint64 - 1, math.MaxUint64}
}

// chance tells scalars of no rule, always the same ones: of all 64 bits, of fewer, and those that are right.
func chance() func() api.Scalar {
	from := rand.New(rand.NewSource(5))
	return func() api.Scalar {
		n := from.Uint64()
		switch from.Intn(4) {
		case 0:
			return api.Scalar(n)
		case 1:
			return api.Scalar(n >> from.Intn(64))
		}
		return api.Scalar(n % order)
	}
}

// whole tells a scalar as a number.
func whole(a api.Scalar) *big.Int {
	return new(big.Int).SetUint64(uint64(a))
}

// modulo tells what is left of a number by Order, from 0 on.
func modulo(n *big.Int) api.Scalar {
	return api.Scalar(new(big.Int).Mod(n, big.NewInt(order)).Uint64())
}

// reckoned holds the sum, the difference and the product of two against those of numbers without bounds, and Neg of the second one.
func reckoned(t *testing.T, a, b api.Scalar) {
	t.Helper()
	if got, want := Add(a, b), modulo(new(big.Int).Add(whole(a), whole(b))); got != want {
		t.Errorf("Add(%d, %d) = %d, not %d", a, b, got, want)
	}
	if got, want := Sub(a, b), modulo(new(big.Int).Sub(whole(a), whole(b))); got != want {
		t.Errorf("Sub(%d, %d) = %d, not %d", a, b, got, want)
	}
	if got, want := Mul(a, b), modulo(new(big.Int).Mul(whole(a), whole(b))); got != want {
		t.Errorf("Mul(%d, %d) = %d, not %d", a, b, got, want)
	}
	if got, want := Neg(b), modulo(new(big.Int).Neg(whole(b))); got != want {
		t.Errorf("Neg(%d) = %d, not %d", b, got, want)
	}
}

// P5.1

func TestOrder(t *testing.T) {
	if api.Order != order || !big.NewInt(order).ProbablyPrime(20) {
		t.Errorf("Order is %d", uint64(api.Order))
	}
}

func TestRight(t *testing.T) {
	for _, x := range []struct {
		a    api.Scalar
		want bool
	}{
		{0, true}, {1, true}, {2, true}, {1 << 60, true}, {order / 2, true}, {order - 2, true}, {order - 1, true},
		{order, false}, {order + 1, false}, {1 << 61, false}, {2*order - 1, false}, {2 * order, false}, {2*order + 1, false},
		{1 << 62, false}, {1 << 63, false}, {8 * order, false}, {8*order + 1, false}, {math.MaxInt64, false}, {math.MaxUint64 - 1, false}, {math.MaxUint64, false},
	} {
		if got := Right(x.a); got != x.want {
			t.Errorf("Right(%d) = %t", x.a, got)
		}
	}
	some := chance()
	for range 10000 {
		a := some()
		if got, want := Right(a), whole(a).Cmp(big.NewInt(order)) < 0; got != want {
			t.Errorf("Right(%d) = %t", a, got)
		}
	}
}

func TestReckoningOfExamples(t *testing.T) {
	const top = math.MaxUint64 // of which 42263 is left, since Order is 8 times in it
	for _, x := range []struct{ a, b, sum, less, product api.Scalar }{
		{0, 0, 0, 0, 0},
		{0, 1, 1, order - 1, 0},
		{1, 0, 1, 1, 0},
		{1, 1, 2, 0, 1},
		{2, 3, 5, order - 1, 6},
		{0, order - 1, order - 1, 1, 0},
		{order - 1, 0, order - 1, order - 1, 0},
		{1, order - 1, 0, 2, order - 1},
		{order - 1, 1, 0, order - 2, order - 1},
		{order - 1, order - 1, order - 2, 0, 1},
		{order - 2, order - 1, order - 3, order - 1, 2},
		{0, order, 0, 0, 0},
		{order, 0, 0, 0, 0},
		{order, order, 0, 0, 0},
		{1, order, 1, 1, 0},
		{order, 1, 1, order - 1, 0},
		{order - 1, order, order - 1, order - 1, 0},
		{order, order - 1, order - 1, 1, 0},
		{order + 1, 0, 1, 1, 0},
		{0, order + 1, 1, order - 1, 0},
		{order + 1, 1, 2, 0, 1},
		{order + 1, order, 1, 1, 0},
		{order + 1, order + 1, 2, 0, 1},
		{order + 1, order - 1, 0, 2, order - 1},
		{top, 0, 42263, 42263, 0},
		{0, top, 42263, order - 42263, 0},
		{top, 1, 42264, 42262, 42263},
		{1, top, 42264, order - 42262, 42263},
		{top, order - 1, 42262, 42264, order - 42263},
		{top, order, 42263, 42263, 0},
		{top, order + 1, 42264, 42262, 42263},
		{top, top, 84526, 0, 1786161169},
		// Order is 2^61 less 5283.
		{1 << 31, 1 << 31, 1 << 32, 0, 10566},
		{1 << 60, 1 << 60, 5283, 0, 1729382256917244024},
	} {
		if got := Add(x.a, x.b); got != x.sum {
			t.Errorf("Add(%d, %d) = %d, not %d", x.a, x.b, got, x.sum)
		}
		if got := Sub(x.a, x.b); got != x.less {
			t.Errorf("Sub(%d, %d) = %d, not %d", x.a, x.b, got, x.less)
		}
		if got := Mul(x.a, x.b); got != x.product {
			t.Errorf("Mul(%d, %d) = %d, not %d", x.a, x.b, got, x.product)
		}
		reckoned(t, x.a, x.b)
	}
}

func TestEdgesWithEach(t *testing.T) {
	l := edges()
	for _, a := range l {
		for _, b := range l {
			reckoned(t, a, b)
		}
	}
}

func TestReckoningOfMany(t *testing.T) {
	some := chance()
	for range 50000 {
		reckoned(t, some(), some())
	}
}

func TestNegOfExamples(t *testing.T) {
	for _, x := range []struct{ a, want api.Scalar }{
		{0, 0},
		{1, 2305843009213688668},
		{2, 2305843009213688667},
		{order / 2, order/2 + 1},
		{order/2 + 1, order / 2},
		{order - 1, 1},
		{order, 0},
		{order + 1, 2305843009213688668},
		{2*order - 1, 1},
		{2 * order, 0},
		{8 * order, 0},
		{math.MaxUint64, order - 42263},
	} {
		if got := Neg(x.a); got != x.want {
			t.Errorf("Neg(%d) = %d, not %d", x.a, got, x.want)
		}
	}
}

// A product of what has 61 bits each has 122: none of those that are too high for 64 may be lost, whichever way it is made.
func TestNoProductIsTooGreat(t *testing.T) {
	some := chance()
	for range 5000 {
		a, b := some(), some()
		sum := api.Scalar(0)
		for bit := 63; bit >= 0; bit-- {
			sum = modulo(new(big.Int).Add(whole(sum), whole(sum)))
			if b>>bit&1 == 1 {
				sum = modulo(new(big.Int).Add(whole(sum), whole(a)))
			}
		}
		if got := Mul(a, b); got != sum {
			t.Errorf("Mul(%d, %d) = %d, not %d, which is that often their sum", a, b, got, sum)
		}
	}
	for one := range 64 {
		for other := range 64 {
			a, b := api.Scalar(1)<<one, api.Scalar(1)<<other
			if got, want := Mul(a, b), modulo(new(big.Int).Lsh(big.NewInt(1), uint(one+other))); got != want {
				t.Errorf("Mul(%d, %d) = %d, not %d", a, b, got, want)
			}
		}
	}
}

// P5.3

// summed tells the sum that a number is, the high bytes first.
func summed(n *big.Int) api.Hash {
	var h api.Hash
	n.FillBytes(h[:])
	return h
}

// from holds From of a sum against what is left of its number.
func from(t *testing.T, h api.Hash) {
	t.Helper()
	n := new(big.Int).SetBytes(h[:])
	want := api.Scalar(n.Mod(n, big.NewInt(order-1)).Uint64() + 1)
	if got := From(h); got != want {
		t.Errorf("From(%x) = %d, not %d", h, got, want)
	}
	if got := From(h); got == 0 || !Right(got) {
		t.Errorf("From(%x) = %d", h, got)
	}
}

func TestFromOfExamples(t *testing.T) {
	full := api.Hash{}
	for i := range full {
		full[i] = 255
	}
	for _, x := range []struct {
		h    api.Hash
		want api.Scalar
	}{
		{api.Hash{}, 1},
		{api.Hash{31: 1}, 2},
		{api.Hash{31: 2}, 3},
		{api.Hash{31: 128}, 129},
		{api.Hash{31: 255}, 256},
		{api.Hash{30: 1}, 257},
		{api.Hash{24: 1}, 1<<56 + 1},
		{summed(big.NewInt(order - 4)), order - 3},
		{summed(big.NewInt(order - 3)), order - 2},
		{summed(big.NewInt(order - 2)), order - 1},
		{summed(big.NewInt(order - 1)), 1},
		{summed(big.NewInt(order)), 2},
		{summed(big.NewInt(order + 1)), 3},
		{summed(new(big.Int).SetUint64(2*order - 3)), order - 1},
		{summed(new(big.Int).SetUint64(2*order - 2)), 1},
		{summed(new(big.Int).SetUint64(2*order - 1)), 2},
		{summed(new(big.Int).SetUint64(math.MaxUint64)), 42272},
		{summed(new(big.Int).Lsh(big.NewInt(1), 64)), 42273},
		{full, 887247167688807588},
		{api.Hash{0: 255}, 874774159185282213},
		{api.Hash{0: 1}, 12473008503525377},
	} {
		if got := From(x.h); got != x.want {
			t.Errorf("From(%x) = %d, not %d", x.h, got, x.want)
		}
		from(t, x.h)
	}
}

func TestFromOfLastBytes(t *testing.T) {
	for b := range 256 {
		if got := From(api.Hash{31: byte(b)}); got != api.Scalar(b+1) {
			t.Errorf("From of the last byte %d = %d", b, got)
		}
	}
}

// Each byte counts, wherever it stands, and as much as its place says.
func TestFromOfSingleBytes(t *testing.T) {
	for at := range 32 {
		for b := range 256 {
			var h api.Hash
			h[at] = byte(b)
			from(t, h)
		}
	}
}

// Those about multiples of Order - 1, and of Order, of all sizes.
func TestFromAboutMultiples(t *testing.T) {
	most := new(big.Int).Lsh(big.NewInt(1), 256)
	for _, of := range []int64{order - 1, order} {
		greatest := new(big.Int).Sub(most, big.NewInt(1))
		for greatest.Quo(greatest, big.NewInt(of)); greatest.Sign() > 0; greatest.Rsh(greatest, 3) {
			about := new(big.Int).Mul(greatest, big.NewInt(of))
			for off := int64(-3); off <= 3; off++ {
				n := new(big.Int).Add(about, big.NewInt(off))
				if n.Sign() >= 0 && n.Cmp(most) < 0 {
					from(t, summed(n))
				}
			}
		}
	}
}

func TestFromOfMany(t *testing.T) {
	chance := rand.New(rand.NewSource(53))
	for range 20000 {
		var h api.Hash
		chance.Read(h[chance.Intn(32):])
		from(t, h)
	}
}
