package keys

import (
	"crypto/sha256"
	"encoding/binary"
	"encoding/hex"
	"math"
	"math/big"
	"math/rand"
	"testing"

	"corsned/api"
)

// The group, and how many revocation secrets there are, written out.
const (
	modulus   = 4611686018427377339
	order     = 2305843009213688669
	generator = 4
	all       = 1 << 20
)

// Here all is reckoned once more, by numbers without bounds and by the library's sums.

func whole[N ~uint64](n N) *big.Int { return new(big.Int).SetUint64(uint64(n)) }

// tagged tells the sum of a name and parts.
func tagged(name string, parts ...[]byte) api.Hash {
	row := append(binary.BigEndian.AppendUint64(nil, uint64(len(name))), name...)
	for _, part := range parts {
		row = append(binary.BigEndian.AppendUint64(row, uint64(len(part))), part...)
	}
	return sha256.Sum256(row)
}

// scalarOf tells the scalar of a sum.
func scalarOf(sum api.Hash) api.Scalar {
	n := new(big.Int).SetBytes(sum[:])
	return api.Scalar(n.Mod(n, big.NewInt(order-1)).Uint64() + 1)
}

// factored tells the factor of a name and two points.
func factored(name string, a, b api.Point) api.Scalar {
	return scalarOf(tagged(name, binary.BigEndian.AppendUint64(nil, uint64(a)), binary.BigEndian.AppendUint64(nil, uint64(b))))
}

// powered tells k of p.
func powered(p api.Point, k api.Scalar) api.Point {
	n := new(big.Int).Mod(whole(k), big.NewInt(order))
	return api.Point(n.Exp(whole(p), n, big.NewInt(modulus)).Uint64())
}

// based tells k of Generator.
func based(k api.Scalar) api.Point { return powered(generator, k) }

// added tells the sum of two points.
func added(p, q api.Point) api.Point {
	n := new(big.Int).Mul(whole(p), whole(q))
	return api.Point(n.Mod(n, big.NewInt(modulus)).Uint64())
}

// reckoned tells a b + c d, modulo Order.
func reckoned(a, b, c, d api.Scalar) api.Scalar {
	n := new(big.Int).Mul(whole(a), whole(b))
	n.Add(n, new(big.Int).Mul(whole(c), whole(d)))
	return api.Scalar(n.Mod(n, big.NewInt(order)).Uint64())
}

// kitOf tells the kit of a seed.
func kitOf(seed api.Hash) api.Kit {
	of := func(place byte) api.Hash { return tagged("kit", seed[:], []byte{place}) }
	return api.Kit{Fund: scalarOf(of(1)), Pay: scalarOf(of(2)), Late: scalarOf(of(3)), Cond: scalarOf(of(4)), Rev: scalarOf(of(5)), Chain: of(6)}
}

// basicsOf tells the points of a kit.
func basicsOf(k api.Kit) api.Basics {
	return api.Basics{Fund: based(k.Fund), Pay: based(k.Pay), Late: based(k.Late), Cond: based(k.Cond), Rev: based(k.Rev)}
}

// secretOf tells the revocation secret of a number, which has to be one.
func secretOf(chain api.Hash, no int) api.Hash {
	for k := 19; k >= 0; k-- {
		if (all-1-no)>>k&1 == 1 {
			chain[k/8] ^= 1 << (k % 8)
			chain = sha256.Sum256(chain[:])
		}
	}
	return chain
}

// perOf tells the point of a revocation secret.
func perOf(secret api.Hash) api.Point { return based(scalarOf(secret)) }

func mixed(base, per api.Point) api.Point {
	return added(base, based(factored("mix", per, base)))
}

func mixedSecret(base api.Scalar, per api.Point) api.Scalar {
	return reckoned(1, base, 1, factored("mix", per, based(base)))
}

func revoked(base, per api.Point) api.Point {
	return added(powered(base, factored("revoke", base, per)), powered(per, factored("revoke", per, base)))
}

func revokedSecret(base api.Scalar, secret api.Hash) api.Scalar {
	p, q := based(base), perOf(secret)
	return reckoned(factored("revoke", p, q), base, factored("revoke", q, p), scalarOf(secret))
}

// right tells whether a point is one of the group.
func right(p api.Point) bool {
	return 0 < p && p < modulus && new(big.Int).Exp(whole(p), big.NewInt(order), big.NewInt(modulus)).Cmp(big.NewInt(1)) == 0
}

// As it is handed in.

var (
	zeros   api.Hash
	ones    = filled(func(int) byte { return 0xff })
	counted = filled(func(i int) byte { return byte(i) })
	abc     = api.Hash(sha256.Sum256([]byte("abc")))
)

func filled(of func(int) byte) (h api.Hash) {
	for i := range h {
		h[i] = of(i)
	}
	return h
}

// turnedAt tells a sum of which one bit is turned.
func turnedAt(h api.Hash, bit int) api.Hash {
	h[bit/8] ^= 1 << (bit % 8)
	return h
}

// sums are seeds and secrets: some by name, and such as differ in one bit.
func sums() []api.Hash {
	l := []api.Hash{zeros, ones, abc, counted}
	for bit := range 256 {
		l = append(l, turnedAt(zeros, bit))
	}
	return l
}

// scalars are those at which something ends; some are not right.
func scalars() []api.Scalar {
	var l []api.Scalar
	for times := range uint64(9) {
		// Eight times Order is the greatest of its multiples that has room in 64 bits.
		for off := range uint64(5) {
			l = append(l, api.Scalar(times*order+off-2))
		}
	}
	for bit := range 64 {
		l = append(l, api.Scalar(1)<<bit)
	}
	return append(l, order/2, order/2+1, modulus-1, modulus, modulus+1, math.MaxUint64)
}

// points are right ones: the null point, small ones, squares and what stands at the end, and those of the scalars.
func points() []api.Point {
	l := []api.Point{1, 3, 4, 5, 9, 16, 25, 256, 65536, order, modulus - 2}
	for bit := 0; bit < 62; bit += 2 {
		l = append(l, api.Point(1)<<bit)
	}
	for _, k := range scalars() {
		l = append(l, based(k))
	}
	return l
}

// read tells the sum of 64 digits in base 16.
func read(t *testing.T, s string) api.Hash {
	t.Helper()
	b, err := hex.DecodeString(s)
	if err != nil || len(b) != 32 {
		t.Fatalf("%q is no sum", s)
	}
	return api.Hash(b)
}

// chance tells sums, scalars and right points, of which no two rows are the same.
type chance struct{ *rand.Rand }

func by(seed int64) chance { return chance{rand.New(rand.NewSource(seed))} }

func (c chance) sum() (h api.Hash) {
	c.Read(h[:])
	return h
}

func (c chance) scalar() api.Scalar { return api.Scalar(c.Uint64() % order) }

func (c chance) point() api.Point { return based(c.scalar()) }
