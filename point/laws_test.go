package point

import (
	"math"
	"math/rand"
	"sync"
	"testing"

	"corsned/api"
	"corsned/field"
)

// held holds what two answers have to be: one and the same right point.
func held(t *testing.T, what string, one, other api.Point, of ...api.Point) {
	t.Helper()
	if one != other || !in(one) || !Right(one) {
		t.Errorf("%s: %d and %d, of %d", what, one, other, of)
	}
}

// as tells as which point one is taken.
func as(p api.Point) api.Point {
	if in(p) {
		return p
	}
	return 1
}

// ofThree holds that sums hang neither on order nor on brackets.
func ofThree(t *testing.T, p, q, r api.Point) {
	t.Helper()
	sum := All(p, q, r)
	held(t, "(p + q) + r", Add(Add(p, q), r), sum, p, q, r)
	held(t, "p + (q + r)", Add(p, Add(q, r)), sum, p, q, r)
	held(t, "q + (p + r)", Add(q, Add(p, r)), sum, p, q, r)
	held(t, "all of p, r, q", All(p, r, q), sum, p, q, r)
	held(t, "all of q, p, r", All(q, p, r), sum, p, q, r)
	held(t, "all of q, r, p", All(q, r, p), sum, p, q, r)
	held(t, "all of r, p, q", All(r, p, q), sum, p, q, r)
	held(t, "all of r, q, p", All(r, q, p), sum, p, q, r)
	held(t, "all of p + q and r", All(All(p, q), r), sum, p, q, r)
	held(t, "(p - q) - r = p - (q + r)", Sub(Sub(p, q), r), Sub(p, Add(q, r)), p, q, r)
	held(t, "(p - q) + r = (p + r) - q", Add(Sub(p, q), r), Sub(Add(p, r), q), p, q, r)
}

// ofTwo holds the laws of sums and differences.
func ofTwo(t *testing.T, p, q api.Point) {
	t.Helper()
	held(t, "p + q = q + p", Add(p, q), Add(q, p), p, q)
	held(t, "p + q = all of both", Add(p, q), All(p, q), p, q)
	held(t, "p - q = p + -q", Sub(p, q), Add(p, Neg(q)), p, q)
	held(t, "p - q = -(q - p)", Sub(p, q), Neg(Sub(q, p)), p, q)
	held(t, "-(p + q) = -p - q", Neg(Add(p, q)), Sub(Neg(p), q), p, q)
	held(t, "(p - q) + q = p", Add(Sub(p, q), q), as(p), p, q)
	held(t, "(p + q) - q = p", Sub(Add(p, q), q), as(p), p, q)
	if (Sub(p, q) == 1) != (as(p) == as(q)) {
		t.Errorf("Sub(%d, %d) = %d", p, q, Sub(p, q))
	}
}

// ofOne holds the laws of the null point, and of what goes against p.
func ofOne(t *testing.T, p api.Point) {
	t.Helper()
	held(t, "all of p", All(p), as(p), p)
	held(t, "p + null = p", Add(p, 1), as(p), p)
	held(t, "null + p = p", Add(1, p), as(p), p)
	held(t, "p - null = p", Sub(p, 1), as(p), p)
	held(t, "null - p = -p", Sub(1, p), Neg(p), p)
	held(t, "p - p = null", Sub(p, p), 1, p)
	held(t, "p + -p = null", Add(p, Neg(p)), 1, p)
	held(t, "-(-p) = p", Neg(Neg(p)), as(p), p)
	held(t, "0 p = null", Scale(p, 0), 1, p)
	held(t, "1 p = p", Scale(p, 1), as(p), p)
	held(t, "2 p = p + p", Scale(p, 2), Add(p, p), p)
	held(t, "-1 p = -p", Scale(p, order-1), Neg(p), p)
	held(t, "Order p = null", Scale(p, order), 1, p)
}

// ofScalars holds the laws of so many of a point.
func ofScalars(t *testing.T, p, q api.Point, k, m api.Scalar) {
	t.Helper()
	held(t, "(k + m) G = k G + m G", Base(field.Add(k, m)), Add(Base(k), Base(m)), api.Point(k), api.Point(m))
	held(t, "(k - m) G = k G - m G", Base(field.Sub(k, m)), Sub(Base(k), Base(m)), api.Point(k), api.Point(m))
	held(t, "-k G = -(k G)", Base(field.Neg(k)), Neg(Base(k)), api.Point(k))
	held(t, "km G = k (m G)", Base(field.Mul(k, m)), Scale(Base(m), k), api.Point(k), api.Point(m))
	held(t, "k of the generator = k G", Scale(generator, k), Base(k), api.Point(k))
	held(t, "k (p + q) = k p + k q", Scale(Add(p, q), k), Add(Scale(p, k), Scale(q, k)), p, q, api.Point(k))
	held(t, "k (p - q) = k p - k q", Scale(Sub(p, q), k), Sub(Scale(p, k), Scale(q, k)), p, q, api.Point(k))
	held(t, "k all = all of k each", Scale(All(p, q, p), k), All(Scale(p, k), Scale(q, k), Scale(p, k)), p, q, api.Point(k))
	held(t, "(k + m) p = k p + m p", Scale(p, field.Add(k, m)), Add(Scale(p, k), Scale(p, m)), p, api.Point(k), api.Point(m))
	held(t, "km p = k (m p)", Scale(p, field.Mul(k, m)), Scale(Scale(p, m), k), p, api.Point(k), api.Point(m))
}

// P6.4

func TestLawsOfEdges(t *testing.T) {
	l := few()
	for _, p := range l {
		for _, q := range l {
			for _, r := range l {
				ofThree(t, p, q, r)
			}
			ofTwo(t, p, q)
			ofScalars(t, p, q, api.Scalar(q), api.Scalar(p))
		}
	}
	for _, p := range edges() {
		ofOne(t, p)
	}
	for _, k := range scalars() {
		ofScalars(t, 3, modulus-2, k, order-2)
		ofScalars(t, 2, 4, 8*order+1, k)
	}
}

func TestLawsOfMany(t *testing.T) {
	some := chance()
	from := rand.New(rand.NewSource(65))
	for range 1500 {
		ofThree(t, some(), some(), some())
		ofTwo(t, some(), some())
		ofOne(t, some())
		ofScalars(t, some(), some(), api.Scalar(from.Uint64()), api.Scalar(from.Uint64()))
	}
}

// Sums of many hang neither on order nor on brackets.
func TestOrderAndBrackets(t *testing.T) {
	some := chance()
	from := rand.New(rand.NewSource(66))
	for n := range 60 {
		l := make([]api.Point, n)
		for i := range l {
			l[i] = some()
		}
		sum := All(l...)
		for range 5 {
			from.Shuffle(n, func(i, j int) { l[i], l[j] = l[j], l[i] })
			cut := from.Intn(n + 1)
			held(t, "all, in another order", All(l...), sum, l...)
			held(t, "all, in brackets", Add(All(l[:cut]...), All(l[cut:]...)), sum, l...)
		}
	}
}

// Scalars that are unlike have unlike Bases; those that are alike modulo Order have the same.
func TestUnlikeScalarsHaveUnlikeBases(t *testing.T) {
	of := map[api.Point]api.Scalar{}
	asked := func(k api.Scalar) {
		p := Base(k)
		held(t, "a Base is right", p, p)
		if other, ok := of[p]; ok && other != k%order {
			t.Errorf("Base(%d) = Base(%d)", k, other)
		}
		of[p] = k % order
	}
	from := rand.New(rand.NewSource(67))
	for n := range api.Scalar(10000) {
		asked(n)
		asked(order - 1 - n)
		asked(order/2 + n)
		asked(api.Scalar(from.Uint64()))
	}
	for _, k := range scalars() {
		asked(k)
	}
	for range 1000 {
		k := api.Scalar(from.Uint64() % order)
		for times := range api.Scalar(8) {
			held(t, "Base of what is left", Base(k+times*order), Base(k), api.Point(k))
			held(t, "Scale by what is left", Scale(3, k+times*order), Scale(3, k), api.Point(k))
		}
	}
}

// A point that is not right is taken as the null point, in each place in which one is handed in.
func TestWrongPointsAreTheNullPoint(t *testing.T) {
	wrong := []api.Point{0, 2, 6, order + 1, modulus - 4, modulus - 3, modulus - 1, modulus, modulus + 1, modulus + 4, 2*modulus + 4, 4*modulus + 16, math.MaxUint64}
	some := chance()
	for range 1000 {
		wrong = append(wrong, modulus-as(some()), modulus+as(some()), 3*modulus+as(some()))
	}
	for _, w := range wrong {
		if Right(w) {
			t.Errorf("Right(%d)", w)
		}
		p, k := as(some()), api.Scalar(some())
		held(t, "w + p", Add(w, p), p, w, p)
		held(t, "p + w", Add(p, w), p, w, p)
		held(t, "w - p", Sub(w, p), Neg(p), w, p)
		held(t, "p - w", Sub(p, w), p, w, p)
		held(t, "-w", Neg(w), 1, w)
		held(t, "k w", Scale(w, k), 1, w, api.Point(k))
		held(t, "all of w", All(w), 1, w)
		held(t, "all of w and others", All(p, w, 3, w), Add(p, 3), w, p)
		held(t, "all of others and w", All(w, p, w, w, 3), Add(p, 3), w, p)
	}
}

// What is told hangs on nothing that was asked ahead of it, or at the same time.
func TestNothingIsKept(t *testing.T) {
	var all sync.WaitGroup
	for range 8 {
		all.Go(func() {
			for _, p := range few() {
				ofOne(t, p)
				reckoned(t, p, p+1)
				scaled(t, p, api.Scalar(p))
				held(t, "all of three", All(p, 3, p), added(p, 3, p), p)
			}
		})
	}
	all.Wait()
}
