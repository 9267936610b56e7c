package sign

import (
	"math"
	"testing"

	"corsned/api"
)

// P7.1

func TestKeyOfExamples(t *testing.T) {
	for _, x := range []struct {
		seed api.Hash
		want api.Scalar
	}{
		{zeros, 347079452541892102},
		{ones, 1524357243989979843},
		{abc, 894414292477687796},
		{counted, 1590685225222659053},
	} {
		if got := Key(x.seed); got != x.want {
			t.Errorf("Key(%x) = %d, not %d", x.seed, got, x.want)
		}
	}
}

func TestKeyOfMany(t *testing.T) {
	from := by(71)
	l := sums()
	for range 3000 {
		l = append(l, from.sum())
	}
	of := map[api.Scalar]api.Hash{}
	for _, seed := range l {
		got := Key(seed)
		if want := summed("key", seed[:]); got != want || !good(got) {
			t.Errorf("Key(%x) = %d, not %d", seed, got, want)
		}
		if other, ok := of[got]; ok {
			t.Errorf("Key(%x) = Key(%x)", seed, other)
		}
		of[got] = seed
	}
}

// P7.2

func TestSignOfExamples(t *testing.T) {
	for _, x := range []struct {
		k    api.Scalar
		p    api.Point
		m    api.Hash
		want api.Sig
	}{
		{1, 4, zeros, api.Sig{R: 13098439846663219, S: 840227504644319019}},
		{1, 4, ones, api.Sig{R: 2344700487773662749, S: 1825656914169206665}},
		{1, 4, abc, api.Sig{R: 906510044407974717, S: 28086149246138122}},
		{1, 4, counted, api.Sig{R: 365873155131199075, S: 1388753289811212380}},
		{2, 16, zeros, api.Sig{R: 1002882211041671884, S: 1508842705197778704}},
		{2, 16, ones, api.Sig{R: 3333940306423245316, S: 2122981315645035505}},
		{2, 16, abc, api.Sig{R: 55224151041415095, S: 2226637277146738640}},
		{2, 16, counted, api.Sig{R: 4423258713987677711, S: 837064651328953006}},
		{3, 64, zeros, api.Sig{R: 2981120332116661293, S: 1539013857144910297}},
		{3, 64, ones, api.Sig{R: 2331385938329491437, S: 12150823539935957}},
		{3, 64, abc, api.Sig{R: 2402295666630355566, S: 417551614379902128}},
		{3, 64, counted, api.Sig{R: 525397681007440470, S: 606916109577907193}},
		{1152921504606844334, 2305843009213688669, zeros, api.Sig{R: 4415355135966432804, S: 692265818800340158}},
		{1152921504606844334, 2305843009213688669, ones, api.Sig{R: 2620027358716708106, S: 892099083337537309}},
		{1152921504606844334, 2305843009213688669, abc, api.Sig{R: 4371304958061111754, S: 2122810992319743531}},
		{1152921504606844334, 2305843009213688669, counted, api.Sig{R: 198882668760848795, S: 1319195836018433328}},
		{2305843009213688667, 3746994889972244088, zeros, api.Sig{R: 2016984101717595926, S: 903063248628512320}},
		{2305843009213688667, 3746994889972244088, ones, api.Sig{R: 3509222246962414067, S: 580367285390979188}},
		{2305843009213688667, 3746994889972244088, abc, api.Sig{R: 735248614992788867, S: 226010595544423521}},
		{2305843009213688667, 3746994889972244088, counted, api.Sig{R: 235815327075874858, S: 1096995650732074642}},
		{2305843009213688668, 1152921504606844335, zeros, api.Sig{R: 4239206404675948568, S: 663799009678722318}},
		{2305843009213688668, 1152921504606844335, ones, api.Sig{R: 1061562194221281549, S: 1260440499209212073}},
		{2305843009213688668, 1152921504606844335, abc, api.Sig{R: 4349526460542926673, S: 1541652577080903629}},
		{2305843009213688668, 1152921504606844335, counted, api.Sig{R: 92112574893706058, S: 922780356414352255}},
		{347079452541892102, 3252390820824618450, zeros, api.Sig{R: 3082267896747646803, S: 867861815622478037}},
		{347079452541892102, 3252390820824618450, ones, api.Sig{R: 1591896005037616469, S: 1853015185468865770}},
		{347079452541892102, 3252390820824618450, abc, api.Sig{R: 1761878688571731417, S: 1086777361470532859}},
		{347079452541892102, 3252390820824618450, counted, api.Sig{R: 1624661645657876668, S: 355119912138449320}},
	} {
		if got := Sign(x.k, x.m); got != x.want {
			t.Errorf("Sign(%d, %x) = %d, not %d", x.k, x.m, got, x.want)
		}
		if !Verify(x.p, x.m, x.want) {
			t.Errorf("Verify(%d, %x, %d)", x.p, x.m, x.want)
		}
	}
}

// What is no key signs nothing: 0, and what is not below Order, though it counts as what is left.
func TestSignOfEdges(t *testing.T) {
	for _, k := range []api.Scalar{0, order, order + 1, order + 2, 2*order - 1, 2 * order, 2*order + 1, 8 * order, 8*order + 1, modulus, math.MaxUint64} {
		for _, m := range sums() {
			if got := Sign(k, m); got != (api.Sig{}) {
				t.Errorf("Sign(%d, %x) = %d", k, m, got)
			}
		}
	}
	for _, k := range keys() {
		for _, m := range []api.Hash{zeros, ones, abc, {31: 1}} {
			if got, want := Sign(k, m), signedBy(k, m); got != want {
				t.Errorf("Sign(%d, %x) = %d, not %d", k, m, got, want)
			}
		}
	}
}

func TestSignOfMany(t *testing.T) {
	from := by(72)
	for range 3000 {
		k, m := from.key(), from.sum()
		if got, want := Sign(k, m), signedBy(k, m); got != want {
			t.Errorf("Sign(%d, %x) = %d, not %d", k, m, got, want)
		}
	}
}

// verified holds Verify against the same reckoned once more, and tells it.
func verified(t *testing.T, p api.Point, m api.Hash, s api.Sig) bool {
	t.Helper()
	got := Verify(p, m, s)
	if want := checked(p, m, 1, s); got != want {
		t.Errorf("Verify(%d, %x, %d) = %t", p, m, s, got)
	}
	return got
}

// A signature of another sum, for another point, with another R, or with another S does not hold.
func TestVerifyOfOthers(t *testing.T) {
	from := by(73)
	for range 60 {
		k, m := from.key(), from.sum()
		p, s := powered(generator, k), signedBy(k, m)
		if !verified(t, p, m, s) {
			t.Fatalf("Verify(%d, %x, %d)", p, m, s)
		}
		for bit := range 256 {
			other := turnedAt(m, bit)
			if Verify(p, other, s) {
				t.Errorf("Verify(%d, %x, %d), of which bit %d was turned", p, other, s, bit)
			}
		}
		for bit := range 64 {
			turned := api.Point(1) << bit
			for _, x := range []struct {
				p api.Point
				s api.Sig
			}{{p ^ turned, s}, {p, api.Sig{R: s.R ^ turned, S: s.S}}, {p, api.Sig{R: s.R, S: s.S ^ api.Scalar(turned)}}} {
				if verified(t, x.p, m, x.s) {
					t.Errorf("Verify(%d, %x, %d), of which bit %d was turned", x.p, m, x.s, bit)
				}
			}
		}
		for _, other := range []api.Sig{{}, {R: s.R}, {S: s.S}, {R: 1, S: s.S}, {R: p, S: s.S}, {R: api.Point(s.S), S: api.Scalar(s.R)}, {R: powered(s.R, order-1), S: s.S}, {R: s.R, S: order - s.S}} {
			if verified(t, p, m, other) {
				t.Errorf("Verify(%d, %x, %d)", p, m, other)
			}
		}
		for _, other := range []api.Point{0, 1, s.R, powered(p, order-1), from.point()} {
			if verified(t, other, m, s) {
				t.Errorf("Verify(%d, %x, %d)", other, m, s)
			}
		}
	}
}

// An S that is not right does not hold, though it counts as one that does.
func TestVerifyOfWrongS(t *testing.T) {
	from := by(74)
	for range 300 {
		k, m := from.key(), from.sum()
		p, s := powered(generator, k), signedBy(k, m)
		for times := api.Scalar(1); times < 8 && s.S <= math.MaxUint64-times*order; times++ {
			if other := (api.Sig{R: s.R, S: s.S + times*order}); verified(t, p, m, other) {
				t.Errorf("Verify(%d, %x, %d)", p, m, other)
			}
		}
	}
}

// The null point is no one's, and neither is a point that is not right, though it counts as the null point: all could sign for it.
func TestVerifyOfWrongPoints(t *testing.T) {
	from := by(75)
	for _, p := range points() {
		if p != 1 && in(p) {
			continue
		}
		for range 5 {
			m, n := from.sum(), from.key()
			if s := (api.Sig{R: powered(generator, n), S: n}); verified(t, p, m, s) {
				t.Errorf("Verify(%d, %x, %d)", p, m, s)
			}
			if s := (api.Sig{R: 1}); verified(t, p, m, s) {
				t.Errorf("Verify(%d, %x, %d)", p, m, s)
			}
		}
	}
}

// An R that is not right does not hold, though it counts as the null point, which does.
func TestVerifyOfWrongR(t *testing.T) {
	from := by(76)
	for _, r := range points() {
		for range 5 {
			k, m := from.key(), from.sum()
			p := powered(generator, k)
			s := api.Sig{R: r, S: reckoned(0, k, challenged(r, p, m))}
			if verified(t, p, m, s) != (r == 1) {
				t.Errorf("Verify(%d, %x, %d)", p, m, s)
			}
		}
	}
}

// By whichever nonce it is made, the least and the greatest among them, it holds.
func TestVerifyOfAllNonces(t *testing.T) {
	from := by(77)
	for _, n := range keys() {
		if n >= order {
			continue
		}
		for _, k := range append(keys(), from.key(), from.key()) {
			if !good(k) {
				continue
			}
			p, m := powered(generator, k), from.sum()
			if s := nonced(k, n, m, 1); !verified(t, p, m, s) {
				t.Errorf("Verify(%d, %x, %d)", p, m, s)
			}
		}
	}
}

func TestVerifyOfMany(t *testing.T) {
	from := by(78)
	for range 3000 {
		p, m := from.point(), from.sum()
		verified(t, p, m, api.Sig{R: from.point(), S: from.key()})
		verified(t, api.Point(from.Uint64()), m, api.Sig{R: api.Point(from.Uint64()), S: api.Scalar(from.Uint64())})
	}
}
