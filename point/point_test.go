package point

import (
	"math"
	"math/big"
	"math/rand"
	"testing"

	"corsned/api"
)

// The group, written out.
const (
	modulus   = 4611686018427377339
	order     = 2305843009213688669
	generator = 4
)

// edges are the numbers at which something ends: those next to how often Modulus, and Order, are in them, and to where a bit begins; right ones and others.
func edges() []api.Point {
	var l []api.Point
	for times := range uint64(5) {
		// Four times Modulus is the greatest of its multiples that has room in 64 bits.
		for off := range uint64(9) {
			l = append(l, api.Point(times*modulus+off-4))
		}
	}
	for bit := range 64 {
		n := api.Point(1) << bit
		l = append(l, n-1, n, n+1)
	}
	return append(l, order-1, order, order+1, order+2, math.MaxUint64-1, math.MaxUint64)
}

// few are the points that are held each with each, three at a time; half of them are not right.
func few() []api.Point {
	return []api.Point{0, 1, 2, 3, 4, 1152921504606844335, order, order + 1, modulus - 4, modulus - 2, modulus - 1, modulus, modulus + 1, modulus + 4, 4*modulus + 4, math.MaxUint64}
}

// chance tells numbers of no rule, always the same ones: of all 64 bits, of fewer, below Modulus, and right points.
func chance() func() api.Point {
	from := rand.New(rand.NewSource(6))
	return func() api.Point {
		n := from.Uint64()
		switch from.Intn(8) {
		case 0:
			return api.Point(n)
		case 1:
			return api.Point(n >> from.Intn(64))
		case 2:
			return api.Point(n % modulus)
		}
		return square(n)
	}
}

// square tells the square of a number, which is a right point unless Modulus divides the number.
func square(n uint64) api.Point {
	root := new(big.Int).SetUint64(n)
	return modulo(root.Mul(root, root))
}

// modulo tells what is left of a number by Modulus, from 0 on.
func modulo(n *big.Int) api.Point {
	return api.Point(new(big.Int).Mod(n, big.NewInt(modulus)).Uint64())
}

// in tells whether a number is in the group, as squares are told from others by reciprocity.
func in(p api.Point) bool {
	return p >= 1 && p < modulus && big.Jacobi(whole(p), big.NewInt(modulus)) == 1
}

// whole tells as a number as what a point is taken.
func whole(p api.Point) *big.Int {
	return new(big.Int).SetUint64(uint64(p))
}

// meant tells as a number as what a point is taken: 1, if it is not in the group.
func meant(p api.Point) *big.Int {
	if !in(p) {
		return big.NewInt(1)
	}
	return whole(p)
}

// added tells the sum of all, by numbers without bounds.
func added(l ...api.Point) api.Point {
	sum := big.NewInt(1)
	for _, p := range l {
		sum.Mul(sum, meant(p))
		sum.Mod(sum, big.NewInt(modulus))
	}
	return modulo(sum)
}

// against tells the point that goes against one, by numbers without bounds.
func against(p api.Point) api.Point {
	return modulo(new(big.Int).ModInverse(meant(p), big.NewInt(modulus)))
}

// reckoned holds the sum and the difference of two against those of numbers without bounds, and Neg of the second one.
func reckoned(t *testing.T, p, q api.Point) {
	t.Helper()
	if got, want := Add(p, q), added(p, q); got != want {
		t.Errorf("Add(%d, %d) = %d, not %d", p, q, got, want)
	}
	if got, want := Sub(p, q), added(p, against(q)); got != want {
		t.Errorf("Sub(%d, %d) = %d, not %d", p, q, got, want)
	}
	if got, want := Neg(q), against(q); got != want {
		t.Errorf("Neg(%d) = %d, not %d", q, got, want)
	}
}

// P6.1

func TestGroup(t *testing.T) {
	if api.Modulus != modulus || api.Order != order || api.Generator != generator {
		t.Errorf("Modulus is %d, Order %d, Generator %d", uint64(api.Modulus), uint64(api.Order), uint64(api.Generator))
	}
	if !big.NewInt(modulus).ProbablyPrime(20) || !big.NewInt(order).ProbablyPrime(20) || uint64(modulus) != 2*order+1 {
		t.Error("the group has not the form")
	}
}

func TestRightOfExamples(t *testing.T) {
	for _, x := range []struct {
		p    api.Point
		want bool
	}{
		{0, false}, {1, true}, {2, false}, {3, true}, {4, true}, {5, true}, {6, false}, {7, false}, {8, false}, {9, true}, {10, false},
		{11, true}, {12, true}, {13, false}, {14, true}, {15, true}, {16, true}, {17, false}, {18, false}, {19, true}, {25, true}, {36, true},
		{order - 1, true}, {order, true}, {order + 1, false}, {1152921504606844335, true},
		{1 << 60, true}, {1 << 61, false}, {1<<62 - 1, false}, {1 << 62, false}, {1 << 63, false},
		{modulus - 9, false}, {modulus - 8, true}, {modulus - 7, true}, {modulus - 6, true}, {modulus - 5, false},
		{modulus - 4, false}, {modulus - 3, false}, {modulus - 2, true}, {modulus - 1, false},
		// What Modulus has to be taken from is not right, though what is left would be.
		{modulus, false}, {modulus + 1, false}, {modulus + 3, false}, {modulus + 4, false}, {modulus + 16, false}, {2*modulus - 2, false}, {2*modulus + 1, false},
		{2*modulus + 4, false}, {3*modulus + 4, false}, {4*modulus - 2, false}, {4 * modulus, false}, {4*modulus + 1, false}, {4*modulus + 4, false},
		{math.MaxInt64, false}, {math.MaxUint64 - 1, false}, {math.MaxUint64, false},
	} {
		if got := Right(x.p); got != x.want {
			t.Errorf("Right(%d) = %t", x.p, got)
		}
		if in(x.p) != x.want {
			t.Errorf("reciprocity says otherwise than %t of %d", x.want, x.p)
		}
	}
}

func TestRightOfMany(t *testing.T) {
	for _, p := range edges() {
		if got := Right(p); got != in(p) {
			t.Errorf("Right(%d) = %t", p, got)
		}
	}
	for p := range api.Point(5000) {
		for _, q := range []api.Point{p, modulus - p, modulus + p, 2*modulus + p, math.MaxUint64 - p} {
			if got := Right(q); got != in(q) {
				t.Errorf("Right(%d) = %t", q, got)
			}
		}
	}
	some := chance()
	for range 20000 {
		p := some()
		if got := Right(p); got != in(p) {
			t.Errorf("Right(%d) = %t", p, got)
		}
	}
}

// As right is said: the power by Order is 1.
func TestRightIsByThePowerByOrder(t *testing.T) {
	from := rand.New(rand.NewSource(61))
	for range 3000 {
		p := api.Point(from.Int63n(modulus-1) + 1)
		power := new(big.Int).Exp(whole(p), big.NewInt(order), big.NewInt(modulus))
		if got := Right(p); got != (power.Cmp(big.NewInt(1)) == 0) {
			t.Errorf("Right(%d) = %t, and its power by Order is %d", p, got, power)
		}
	}
}

// Squares are right, and what goes to Modulus with one is not: half of the numbers below it are.
func TestRightAreTheSquares(t *testing.T) {
	from := rand.New(rand.NewSource(62))
	for n := range uint64(5000) {
		for _, root := range []uint64{n + 1, from.Uint64()%(modulus-1) + 1} {
			p := square(root)
			if !Right(p) || Right(modulus-p) || Right(modulus+p) {
				t.Errorf("of %d, the square of %d: %t, %t, %t", p, root, Right(p), Right(modulus-p), Right(modulus+p))
			}
		}
	}
}

// P6.2

func TestSumsOfExamples(t *testing.T) {
	// What goes against 4, against 16 and against the greatest right point.
	const four, sixteen, greatest = 1152921504606844335, 3746994889972244088, order
	for _, x := range []struct{ p, q, sum, less, other api.Point }{
		{1, 1, 1, 1, 1},
		{4, 16, 64, four, sixteen},
		{16, 4, 64, 4, four},
		{4, 1, 4, 4, 1},
		{1, 4, 4, four, four},
		{4, 4, 16, 1, four},
		{3, 4, 12, 3458764513820533005, four},
		{4, 3, 12, 1537228672809125781, 1537228672809125780},
		{5, 3, 15, 3074457345618251561, 1537228672809125780},
		{4, four, 1, 16, 4},
		{four, four, sixteen, 1, 4},
		{modulus - 2, modulus - 2, 4, 1, greatest},
		{modulus - 2, 4, modulus - 8, greatest, four},
		{order, order, four, 1, modulus - 2},
		{1 << 60, 4, 10565, 1 << 58, four},
		// Those that are not right are taken as 1.
		{0, 0, 1, 1, 1},
		{0, 4, 4, four, four},
		{4, 0, 4, 4, 1},
		{2, 2, 1, 1, 1},
		{2, 4, 4, four, four},
		{4, 2, 4, 4, 1},
		{modulus - 1, modulus - 1, 1, 1, 1},
		{4, modulus - 1, 4, 4, 1},
		{modulus - 4, 4, 4, four, four},
		{4, modulus, 4, 4, 1},
		{modulus + 1, modulus + 4, 1, 1, 1},
		{4, modulus + 4, 4, 4, 1},
		{modulus + 4, 4, 4, four, four},
		{4*modulus + 4, 16, 16, sixteen, sixteen},
		{math.MaxUint64, 4, 4, four, four},
		{4, math.MaxUint64, 4, 4, 1},
		{math.MaxUint64, math.MaxUint64, 1, 1, 1},
	} {
		if got := Add(x.p, x.q); got != x.sum {
			t.Errorf("Add(%d, %d) = %d, not %d", x.p, x.q, got, x.sum)
		}
		if got := Sub(x.p, x.q); got != x.less {
			t.Errorf("Sub(%d, %d) = %d, not %d", x.p, x.q, got, x.less)
		}
		if got := Neg(x.q); got != x.other {
			t.Errorf("Neg(%d) = %d, not %d", x.q, got, x.other)
		}
		reckoned(t, x.p, x.q)
	}
}

func TestEdgesWithEach(t *testing.T) {
	l := edges()
	for i, p := range l {
		for _, q := range few() {
			reckoned(t, p, q)
			reckoned(t, q, p)
		}
		for j := range 20 {
			reckoned(t, p, l[(i+j*j)%len(l)])
		}
	}
}

func TestReckoningOfMany(t *testing.T) {
	some := chance()
	for range 10000 {
		reckoned(t, some(), some())
	}
}

func TestAllOfExamples(t *testing.T) {
	for _, x := range []struct {
		l    []api.Point
		want api.Point
	}{
		{nil, 1},
		{[]api.Point{}, 1},
		{[]api.Point{1}, 1},
		{[]api.Point{4}, 4},
		{[]api.Point{modulus - 2}, modulus - 2},
		{[]api.Point{0}, 1},
		{[]api.Point{2}, 1},
		{[]api.Point{modulus - 1}, 1},
		{[]api.Point{modulus}, 1},
		{[]api.Point{modulus + 4}, 1},
		{[]api.Point{math.MaxUint64}, 1},
		{[]api.Point{4, 16}, 64},
		{[]api.Point{1, 4}, 4},
		{[]api.Point{3, 4, 5}, 60},
		{[]api.Point{3, 4, 5, 9}, 540},
		{[]api.Point{4, 4, 4, 4}, 256},
		{[]api.Point{0, 3, 2, 4, modulus - 1, 5, modulus, 9, modulus + 4}, 540},
		{[]api.Point{0, 0, 2, 2}, 1},
		{[]api.Point{1 << 60, 3, 4}, 31695},
		{[]api.Point{modulus - 2, modulus - 2, modulus - 2}, modulus - 8},
		{[]api.Point{4, 1152921504606844335, 9}, 9},
	} {
		if got := All(x.l...); got != x.want {
			t.Errorf("All of %d = %d, not %d", x.l, got, x.want)
		}
	}
	if got := All(); got != 1 {
		t.Errorf("All() = %d", got)
	}
	if got := All(3, 4, 5); got != 60 {
		t.Errorf("All(3, 4, 5) = %d", got)
	}
}

// Lists of all lengths, the greatest of many points; what is handed in is left as it is.
func TestAllOfMany(t *testing.T) {
	some := chance()
	for n := range 300 {
		l := make([]api.Point, n, n+3)
		for i := range l {
			l[i] = some()
		}
		room := l[:cap(l)]
		before := append([]api.Point{}, room...)
		if got, want := All(l...), added(l...); got != want {
			t.Errorf("All of %d = %d, not %d", l, got, want)
		}
		for i, p := range before {
			if room[i] != p {
				t.Errorf("All of %d: number %d became %d", before, i, room[i])
			}
		}
	}
	long := make([]api.Point, 1<<16)
	for i := range long {
		long[i] = api.Generator
	}
	if got, want := All(long...), powered(4, 1<<16); got != want {
		t.Errorf("All of %d times 4 = %d, not %d", len(long), got, want)
	}
}

// A product of what has 62 bits each has 124: none of those that are too high for 64 may be lost, whichever way it is made.
func TestNoSumIsTooGreat(t *testing.T) {
	from := rand.New(rand.NewSource(63))
	for range 3000 {
		p, q := square(from.Uint64()), square(from.Uint64())
		product := new(big.Int)
		for bit := 61; bit >= 0; bit-- {
			product.Lsh(product, 1)
			if q>>bit&1 == 1 {
				product.Add(product, whole(p))
			}
		}
		if got := Add(p, q); got != modulo(product) {
			t.Errorf("Add(%d, %d) = %d, not %d", p, q, got, modulo(product))
		}
	}
	for one := 0; one < 62; one += 2 {
		for other := 0; other < 62; other += 2 {
			p, q := api.Point(1)<<one, api.Point(1)<<other
			if got, want := Add(p, q), modulo(new(big.Int).Lsh(big.NewInt(1), uint(one+other))); got != want {
				t.Errorf("Add(%d, %d) = %d, not %d", p, q, got, want)
			}
		}
	}
}
