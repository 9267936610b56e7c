package sign

import (
	"math"
	"testing"

	"corsned/api"
)

// P7.3

func TestPreOfExamples(t *testing.T) {
	for _, x := range []struct {
		k       api.Scalar
		p       api.Point
		m       api.Hash
		lacking api.Point
		want    api.Sig
	}{
		{1, 4, zeros, 1, api.Sig{R: 1416180310492488341, S: 1692397686328938774}},
		{1, 4, zeros, 3, api.Sig{R: 3088939791994084934, S: 37848738902273026}},
		{1, 4, zeros, 4, api.Sig{R: 2500552079892256850, S: 859052792386384643}},
		{1, 4, zeros, 2305843009213688669, api.Sig{R: 4211306975879398890, S: 535427077120418533}},
		{1, 4, zeros, 4611686018427377337, api.Sig{R: 3680508123186212408, S: 1394677778794646459}},
		{1, 4, abc, 1, api.Sig{R: 1808994346126876773, S: 373086971572168974}},
		{1, 4, abc, 3, api.Sig{R: 2250470779044661769, S: 1451496088399467564}},
		{1, 4, abc, 4, api.Sig{R: 3199915037121979372, S: 1659600332344623553}},
		{1, 4, abc, 2305843009213688669, api.Sig{R: 401792428994286984, S: 2298633747391126784}},
		{1, 4, abc, 4611686018427377337, api.Sig{R: 1785653999715393954, S: 851450404316317242}},
		{2, 16, zeros, 1, api.Sig{R: 2785246427239385194, S: 1711770561521577370}},
		{2, 16, zeros, 3, api.Sig{R: 3776963940038223290, S: 2113477026768092904}},
		{2, 16, zeros, 4, api.Sig{R: 3698366948128264275, S: 2206407233376645909}},
		{2, 16, zeros, 2305843009213688669, api.Sig{R: 2132534543660986511, S: 1676203712766891500}},
		{2, 16, zeros, 4611686018427377337, api.Sig{R: 2903280421353641700, S: 420699675249620528}},
		{2, 16, abc, 1, api.Sig{R: 381560524308377749, S: 1357995999651461101}},
		{2, 16, abc, 3, api.Sig{R: 3080542698320893280, S: 1228378076755063353}},
		{2, 16, abc, 4, api.Sig{R: 2097915723771784855, S: 447239582525006224}},
		{2, 16, abc, 2305843009213688669, api.Sig{R: 1304043349926227946, S: 2164769037393836858}},
		{2, 16, abc, 4611686018427377337, api.Sig{R: 663988916232432735, S: 144959002105683973}},
		{2305843009213688668, 1152921504606844335, zeros, 1, api.Sig{R: 2548477664605251381, S: 1331773227660956200}},
		{2305843009213688668, 1152921504606844335, zeros, 3, api.Sig{R: 3163308689160406774, S: 1675436605380616538}},
		{2305843009213688668, 1152921504606844335, zeros, 4, api.Sig{R: 3521119403947120419, S: 1214962940347851007}},
		{2305843009213688668, 1152921504606844335, zeros, 2305843009213688669, api.Sig{R: 3328593686822836685, S: 1100441375246677315}},
		{2305843009213688668, 1152921504606844335, zeros, 4611686018427377337, api.Sig{R: 2258825715448363226, S: 1633021643779730176}},
		{2305843009213688668, 1152921504606844335, abc, 1, api.Sig{R: 3332563020690117303, S: 1142211443778333511}},
		{2305843009213688668, 1152921504606844335, abc, 3, api.Sig{R: 4594868236654828351, S: 1571859114079036068}},
		{2305843009213688668, 1152921504606844335, abc, 4, api.Sig{R: 2329193278635907494, S: 133500835916082405}},
		{2305843009213688668, 1152921504606844335, abc, 2305843009213688669, api.Sig{R: 385221607320317777, S: 247892067751176048}},
		{2305843009213688668, 1152921504606844335, abc, 4611686018427377337, api.Sig{R: 1467483198568661984, S: 152562217233122019}},
		{347079452541892102, 3252390820824618450, zeros, 1, api.Sig{R: 1485898292790645049, S: 1872083847850420146}},
		{347079452541892102, 3252390820824618450, zeros, 3, api.Sig{R: 305755831665583897, S: 2208448172379723655}},
		{347079452541892102, 3252390820824618450, zeros, 4, api.Sig{R: 876357909296175755, S: 709627834620951536}},
		{347079452541892102, 3252390820824618450, zeros, 2305843009213688669, api.Sig{R: 681888428419081052, S: 282161425257144091}},
		{347079452541892102, 3252390820824618450, zeros, 4611686018427377337, api.Sig{R: 1229874980747026870, S: 1700678759316843420}},
		{347079452541892102, 3252390820824618450, abc, 1, api.Sig{R: 1275716723376187133, S: 473896105974303862}},
		{347079452541892102, 3252390820824618450, abc, 3, api.Sig{R: 151916382272451781, S: 959204050822627952}},
		{347079452541892102, 3252390820824618450, abc, 4, api.Sig{R: 72124214459546010, S: 1169360168340802523}},
		{347079452541892102, 3252390820824618450, abc, 2305843009213688669, api.Sig{R: 1819430644959089258, S: 1388865452134667424}},
		{347079452541892102, 3252390820824618450, abc, 4611686018427377337, api.Sig{R: 2776145214808506903, S: 1711434945271474586}},
	} {
		if got := Pre(x.k, x.m, x.lacking); got != x.want {
			t.Errorf("Pre(%d, %x, %d) = %d, not %d", x.k, x.m, x.lacking, got, x.want)
		}
		if !Checks(x.p, x.m, x.lacking, x.want) {
			t.Errorf("Checks(%d, %x, %d, %d)", x.p, x.m, x.lacking, x.want)
		}
	}
}

// What is no key signs nothing, and nothing lacks the secret of what is not right.
func TestPreOfEdges(t *testing.T) {
	for _, k := range keys() {
		for _, lacking := range []api.Point{0, 1, 2, 4, modulus - 2, modulus - 1, modulus + 4} {
			if got, want := Pre(k, abc, lacking), preparedBy(k, abc, lacking); got != want {
				t.Errorf("Pre(%d, %x, %d) = %d, not %d", k, abc, lacking, got, want)
			}
		}
	}
	for _, lacking := range points() {
		for _, m := range []api.Hash{zeros, ones, {31: 1}} {
			for _, k := range []api.Scalar{0, 1, 2, order - 1, order, order + 1} {
				got, want := Pre(k, m, lacking), preparedBy(k, m, lacking)
				if got != want || (want == api.Sig{}) != (!good(k) || !in(lacking)) {
					t.Errorf("Pre(%d, %x, %d) = %d, not %d", k, m, lacking, got, want)
				}
			}
		}
	}
}

func TestPreOfMany(t *testing.T) {
	from := by(79)
	for range 3000 {
		k, m, lacking := from.key(), from.sum(), from.point()
		if got, want := Pre(k, m, lacking), preparedBy(k, m, lacking); got != want {
			t.Errorf("Pre(%d, %x, %d) = %d, not %d", k, m, lacking, got, want)
		}
	}
}

// looked holds Checks against the same reckoned once more, and tells it.
func looked(t *testing.T, p api.Point, m api.Hash, lacking api.Point, s api.Sig) bool {
	t.Helper()
	got := Checks(p, m, lacking, s)
	if want := checked(p, m, lacking, s); got != want {
		t.Errorf("Checks(%d, %x, %d, %d) = %t", p, m, lacking, s, got)
	}
	return got
}

// One of another sum, for another point, that lacks another secret, with another R, or with another S does not check.
func TestChecksOfOthers(t *testing.T) {
	from := by(80)
	for range 60 {
		k, m, n := from.key(), from.sum(), from.key()
		p, lacking := powered(generator, k), powered(generator, n)
		s := preparedBy(k, m, lacking)
		if !looked(t, p, m, lacking, s) {
			t.Fatalf("Checks(%d, %x, %d, %d)", p, m, lacking, s)
		}
		for bit := range 256 {
			other := turnedAt(m, bit)
			if Checks(p, other, lacking, s) {
				t.Errorf("Checks(%d, %x, %d, %d), of which bit %d was turned", p, other, lacking, s, bit)
			}
		}
		for bit := range 64 {
			turned := api.Point(1) << bit
			if looked(t, p^turned, m, lacking, s) || looked(t, p, m, lacking^turned, s) || looked(t, p, m, lacking, api.Sig{R: s.R ^ turned, S: s.S}) || looked(t, p, m, lacking, api.Sig{R: s.R, S: s.S ^ api.Scalar(turned)}) {
				t.Errorf("Checks(%d, %x, %d, %d), of which bit %d was turned", p, m, lacking, s, bit)
			}
		}
		for _, other := range []api.Sig{{}, {R: s.R}, {S: s.S}, {R: added(s.R, powered(lacking, order-1)), S: s.S}, adapted(s, n), signedBy(k, m)} {
			if looked(t, p, m, lacking, other) {
				t.Errorf("Checks(%d, %x, %d, %d)", p, m, lacking, other)
			}
		}
		for _, other := range []api.Point{0, 1, p, s.R, powered(lacking, order-1), powered(lacking, 2)} {
			if looked(t, p, m, other, s) {
				t.Errorf("Checks(%d, %x, %d, %d)", p, m, other, s)
			}
		}
		if looked(t, lacking, m, p, s) || looked(t, 1, m, lacking, s) {
			t.Errorf("Checks(%x, %d) of other points", m, s)
		}
	}
}

// fitting tells the point of whose secret a signature lacks as much as it does, whatever it is; what is not right counts as the null point.
func fitting(p api.Point, m api.Hash, s api.Sig) api.Point {
	challenge := challenged(s.R, p, m)
	counts := func(p api.Point) api.Point {
		if in(p) {
			return p
		}
		return 1
	}
	there := added(counts(s.R), powered(counts(p), challenge))
	return added(there, powered(generator, reckoned(0, s.S, order-1)))
}

// With the point that it lacks, each R and each S that is right checks, and none that is not, though it counts as one that is.
func TestChecksOfEdges(t *testing.T) {
	from := by(81)
	for _, k := range keys() {
		m, p := from.sum(), from.point()
		for _, s := range []api.Sig{{R: from.point(), S: k}, {R: 1, S: k}, {R: p, S: k}, {R: 0, S: k}, {R: 2, S: k}, {R: modulus + 4, S: k}} {
			if looked(t, p, m, fitting(p, m, s), s) != (k < order && in(s.R)) {
				t.Errorf("Checks(%d, %x, %d, %d)", p, m, fitting(p, m, s), s)
			}
		}
	}
	for _, q := range points() {
		m, p := from.sum(), from.point()
		for _, s := range []api.Sig{{R: q}, {R: q, S: from.key()}, {R: q, S: order - 1}, {R: q, S: order}} {
			if looked(t, p, m, fitting(p, m, s), s) != (in(q) && s.S < order) {
				t.Errorf("Checks(%d, %x, %d, %d)", p, m, fitting(p, m, s), s)
			}
		}
		for _, s := range []api.Sig{{R: 1}, {R: p}, {R: p, S: from.key()}} {
			if looked(t, q, m, fitting(q, m, s), s) != (in(q) && q != 1) {
				t.Errorf("Checks(%d, %x, %d, %d)", q, m, fitting(q, m, s), s)
			}
		}
	}
}

// Nothing lacks the secret of a point that is not right, though it counts as the null point: not even what is whole.
func TestChecksOfWrongPointsThatLack(t *testing.T) {
	from := by(82)
	for _, lacking := range points() {
		k, m := from.key(), from.sum()
		p := powered(generator, k)
		for _, s := range []api.Sig{signedBy(k, m), preparedBy(k, m, 1)} {
			if looked(t, p, m, lacking, s) != (lacking == 1) {
				t.Errorf("Checks(%d, %x, %d, %d)", p, m, lacking, s)
			}
		}
		looked(t, p, m, lacking, preparedBy(k, m, lacking))
	}
}

func TestChecksOfMany(t *testing.T) {
	from := by(83)
	for range 3000 {
		p, m := from.point(), from.sum()
		looked(t, p, m, from.point(), api.Sig{R: from.point(), S: from.key()})
		looked(t, api.Point(from.Uint64()), m, api.Point(from.Uint64()), api.Sig{R: api.Point(from.Uint64()), S: api.Scalar(from.Uint64())})
	}
}

// P7.4

func TestAdaptOfExamples(t *testing.T) {
	for _, x := range []struct {
		pre  api.Sig
		of   api.Scalar
		want api.Sig
	}{
		{api.Sig{R: 4, S: 5}, 6, api.Sig{R: 4, S: 11}},
		{api.Sig{R: 4, S: 5}, 0, api.Sig{R: 4, S: 5}},
		{api.Sig{R: 4, S: 0}, 6, api.Sig{R: 4, S: 6}},
		{api.Sig{R: 4, S: order - 1}, 1, api.Sig{R: 4, S: 0}},
		{api.Sig{R: 4, S: 1}, order - 1, api.Sig{R: 4, S: 0}},
		{api.Sig{R: 4, S: order - 1}, order - 1, api.Sig{R: 4, S: order - 2}},
		{api.Sig{R: 4, S: order - 1}, 0, api.Sig{R: 4, S: order - 1}},
		{api.Sig{}, 0, api.Sig{}},
		// Of R nothing is asked: it stays.
		{api.Sig{}, 3, api.Sig{S: 3}},
		{api.Sig{R: 2, S: 5}, 6, api.Sig{R: 2, S: 11}},
		{api.Sig{R: math.MaxUint64, S: 5}, 6, api.Sig{R: math.MaxUint64, S: 11}},
		// Of what is not right nothing is told.
		{api.Sig{R: 4, S: order}, 6, api.Sig{}},
		{api.Sig{R: 4, S: order + 5}, 6, api.Sig{}},
		{api.Sig{R: 4, S: math.MaxUint64}, 6, api.Sig{}},
		{api.Sig{R: 4, S: 5}, order, api.Sig{}},
		{api.Sig{R: 4, S: 5}, order + 6, api.Sig{}},
		{api.Sig{R: 4, S: 5}, math.MaxUint64, api.Sig{}},
		{api.Sig{R: 4, S: order}, order, api.Sig{}},
		{api.Sig{R: 4, S: 3}, math.MaxUint64 - 2, api.Sig{}},
		{api.Sig{R: 4, S: math.MaxUint64 - 2}, 3, api.Sig{}},
	} {
		if got := Adapt(x.pre, x.of); got != x.want {
			t.Errorf("Adapt(%d, %d) = %d, not %d", x.pre, x.of, got, x.want)
		}
	}
}

func TestExtractOfExamples(t *testing.T) {
	for _, x := range []struct {
		pre, full api.Sig
		want      api.Scalar
	}{
		{api.Sig{R: 4, S: 5}, api.Sig{R: 4, S: 11}, 6},
		{api.Sig{R: 4, S: 5}, api.Sig{R: 4, S: 5}, 0},
		{api.Sig{R: 4, S: 11}, api.Sig{R: 4, S: 5}, order - 6},
		{api.Sig{R: 4, S: 0}, api.Sig{R: 4, S: order - 1}, order - 1},
		{api.Sig{R: 4, S: order - 1}, api.Sig{R: 4, S: 0}, 1},
		{api.Sig{R: 4, S: order - 1}, api.Sig{R: 4, S: order - 2}, order - 1},
		{api.Sig{}, api.Sig{}, 0},
		// Of R nothing is asked.
		{api.Sig{R: 4, S: 5}, api.Sig{R: 16, S: 11}, 6},
		{api.Sig{R: 0, S: 5}, api.Sig{R: 2, S: 11}, 6},
		{api.Sig{S: 3}, api.Sig{R: math.MaxUint64, S: 7}, 4},
		// Of what is not right nothing is told.
		{api.Sig{R: 4, S: order}, api.Sig{R: 4, S: 11}, 0},
		{api.Sig{R: 4, S: order + 5}, api.Sig{R: 4, S: 11}, 0},
		{api.Sig{R: 4, S: math.MaxUint64}, api.Sig{R: 4, S: 11}, 0},
		{api.Sig{R: 4, S: 5}, api.Sig{R: 4, S: order}, 0},
		{api.Sig{R: 4, S: 5}, api.Sig{R: 4, S: order + 11}, 0},
		{api.Sig{R: 4, S: 5}, api.Sig{R: 4, S: math.MaxUint64}, 0},
		{api.Sig{R: 4, S: order + 5}, api.Sig{R: 4, S: order + 11}, 0},
	} {
		if got := Extract(x.pre, x.full); got != x.want {
			t.Errorf("Extract(%d, %d) = %d, not %d", x.pre, x.full, got, x.want)
		}
	}
}

func TestAdaptAndExtractOfEdges(t *testing.T) {
	l := keys()
	for _, a := range l {
		for _, b := range l {
			pre, full := api.Sig{R: 4, S: a}, api.Sig{R: 9, S: b}
			var whole api.Sig
			secret := api.Scalar(0)
			if a < order && b < order {
				whole = adapted(pre, b)
				secret = reckoned(b, a, order-1)
			}
			if got := Adapt(pre, b); got != whole {
				t.Errorf("Adapt(%d, %d) = %d, not %d", pre, b, got, whole)
			}
			if got := Extract(pre, full); got != secret {
				t.Errorf("Extract(%d, %d) = %d, not %d", pre, full, got, secret)
			}
		}
	}
}
