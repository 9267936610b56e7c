package sign

import (
	"crypto/sha256"
	"encoding/binary"
	"math"
	"math/big"
	"math/rand"
	"testing"

	"corsned/api"
)

// The group, written out.
const (
	modulus   = 4611686018427377339
	order     = 2305843009213688669
	generator = 4
)

// Here all is reckoned once more, by numbers without bounds and by the library's sums.

func whole[N ~uint64](n N) *big.Int { return new(big.Int).SetUint64(uint64(n)) }

// summed tells the scalar of a name and parts.
func summed(name string, parts ...[]byte) api.Scalar {
	row := append(binary.BigEndian.AppendUint64(nil, uint64(len(name))), name...)
	for _, part := range parts {
		row = append(binary.BigEndian.AppendUint64(row, uint64(len(part))), part...)
	}
	sum := sha256.Sum256(row)
	n := new(big.Int).SetBytes(sum[:])
	n.Mod(n, big.NewInt(order-1))
	return api.Scalar(n.Uint64() + 1)
}

// bytesOf tells a number's eight bytes, the high one first.
func bytesOf[N ~uint64](n N) []byte { return binary.BigEndian.AppendUint64(nil, uint64(n)) }

// powered tells k of p.
func powered(p api.Point, k api.Scalar) api.Point {
	return api.Point(new(big.Int).Exp(whole(p), whole(k), big.NewInt(modulus)).Uint64())
}

// added tells the sum of two points.
func added(p, q api.Point) api.Point {
	n := new(big.Int).Mul(whole(p), whole(q))
	return api.Point(n.Mod(n, big.NewInt(modulus)).Uint64())
}

// reckoned tells a + b c, modulo Order.
func reckoned(a, b, c api.Scalar) api.Scalar {
	n := new(big.Int).Mul(whole(b), whole(c))
	n.Add(n, whole(a))
	return api.Scalar(n.Mod(n, big.NewInt(order)).Uint64())
}

func challenged(r, p api.Point, m api.Hash) api.Scalar {
	return summed("sig", bytesOf(r), bytesOf(p), m[:])
}

// nonced tells the signature by a nonce, if that of t is lacking.
func nonced(k, n api.Scalar, m api.Hash, t api.Point) api.Sig {
	r := added(powered(generator, n), t)
	return api.Sig{R: r, S: reckoned(n, k, challenged(r, powered(generator, k), m))}
}

func good(k api.Scalar) bool { return 0 < k && k < order }

func in(p api.Point) bool {
	return 0 < p && p < modulus && powered(p, order) == 1
}

func signedBy(k api.Scalar, m api.Hash) api.Sig {
	if !good(k) {
		return api.Sig{}
	}
	return nonced(k, summed("nonce", bytesOf(k), m[:]), m, 1)
}

func preparedBy(k api.Scalar, m api.Hash, t api.Point) api.Sig {
	if !good(k) || !in(t) {
		return api.Sig{}
	}
	return nonced(k, summed("pre", bytesOf(k), m[:], bytesOf(t)), m, t)
}

func checked(p api.Point, m api.Hash, t api.Point, s api.Sig) bool {
	if !in(p) || p == 1 || !in(t) || !in(s.R) || s.S >= order {
		return false
	}
	return added(powered(generator, s.S), t) == added(s.R, powered(p, challenged(s.R, p, m)))
}

// adapted tells pre with the scalar n, which is right, added to its S.
func adapted(pre api.Sig, n api.Scalar) api.Sig {
	return api.Sig{R: pre.R, S: reckoned(pre.S, n, 1)}
}

// As it is handed in.

// sums are sums to sign: some by name, and some more.
func sums() []api.Hash {
	l := []api.Hash{zeros, ones, abc, counted}
	for bit := range 256 {
		l = append(l, turnedAt(zeros, bit))
	}
	return l
}

var (
	zeros   api.Hash
	ones    = filled(func(int) byte { return 0xff })
	counted = filled(func(i int) byte { return byte(i) })
	abc     = api.Hash(sha256.Sum256([]byte("abc")))
)

func filled(of func(int) byte) (h api.Hash) {
	for i := range h {
		h[i] = of(i)
	}
	return h
}

// turnedAt tells a sum of which one bit is turned.
func turnedAt(h api.Hash, bit int) api.Hash {
	h[bit/8] ^= 1 << (bit % 8)
	return h
}

// keys are the scalars at which something ends; some of them are none.
func keys() []api.Scalar {
	var l []api.Scalar
	for times := range uint64(9) {
		// Eight times Order is the greatest of its multiples that has room in 64 bits.
		for off := range uint64(5) {
			l = append(l, api.Scalar(times*order+off-2))
		}
	}
	for bit := range 64 {
		l = append(l, api.Scalar(1)<<bit)
	}
	return append(l, order/2, order/2+1, modulus-1, modulus, modulus+1, math.MaxUint64)
}

// points are the points at which something ends; some of them are not right.
func points() []api.Point {
	var l []api.Point
	for times := range uint64(5) {
		// Four times Modulus is the greatest of its multiples that has room in 64 bits.
		for off := range uint64(9) {
			l = append(l, api.Point(times*modulus+off-4))
		}
	}
	for bit := range 64 {
		l = append(l, api.Point(1)<<bit)
	}
	return append(l, 3, 5, 6, order-1, order, order+1, modulus-16, modulus-9, 2*modulus+16, math.MaxUint64)
}

// chance tells sums, keys and right points, of which no two rows are the same.
type chance struct{ *rand.Rand }

func by(seed int64) chance { return chance{rand.New(rand.NewSource(seed))} }

func (c chance) sum() (h api.Hash) {
	c.Read(h[:])
	return h
}

func (c chance) key() api.Scalar { return api.Scalar(c.Uint64()%(order-1) + 1) }

func (c chance) point() api.Point { return powered(generator, c.key()) }

// The reckoning of these tests, held against what was reckoned apart from it.
func TestReckoning(t *testing.T) {
	if got := summed("key", zeros[:]); got != 347079452541892102 {
		t.Errorf("the scalar of the zero seed is %d", got)
	}
	if got := powered(generator, 347079452541892102); got != 3252390820824618450 {
		t.Errorf("its point is %d", got)
	}
	if got := signedBy(1, abc); got != (api.Sig{R: 906510044407974717, S: 28086149246138122}) {
		t.Errorf("the signature by 1 is %d", got)
	}
	for p, want := range map[api.Point]bool{0: false, 1: true, 2: false, 3: true, 4: true, 5: true, order: true, modulus - 2: true, modulus - 1: false, modulus: false, modulus + 4: false} {
		if in(p) != want {
			t.Errorf("%d is right: %t", p, !want)
		}
	}
}
