package keys

import (
	"math"
	"testing"

	"corsned/api"
)

// P11.1

func TestKitOfExamples(t *testing.T) {
	for _, x := range []struct {
		seed   api.Hash
		kit    api.Kit
		basics api.Basics
	}{
		{zeros, api.Kit{Fund: 645788139647403855, Pay: 1731491998786561694, Late: 689601199014671300, Cond: 1384255663303705749, Rev: 1859009465200530682, Chain: read(t, "4dbec87ac0874845341f905867032ff86726ccd2ed6ae20770d2b919e292564a")}, api.Basics{Fund: 2194138374331803587, Pay: 765454637255927877, Late: 2184856422811123392, Cond: 4208846686594161766, Rev: 1589634421022814497}},
		{ones, api.Kit{Fund: 994936314025327180, Pay: 2271947565529827020, Late: 520919673412614984, Cond: 1146175977842299267, Rev: 2103992086331227079, Chain: read(t, "a89e595f2124abe962869edf4253117a066cbf68a07536ff68fa38df046b25ef")}, api.Basics{Fund: 1763313281128316531, Pay: 4414609813976352218, Late: 4409860558854235726, Cond: 2939426902180392459, Rev: 1880322580265919483}},
		{counted, api.Kit{Fund: 122486722810668864, Pay: 1825579154645990925, Late: 1633090632340493271, Cond: 201468325787107068, Rev: 1492325184895297979, Chain: read(t, "ebc02ef93fbde5eb927c663b587db38eca62ab20019e75bd4919a437eaea5187")}, api.Basics{Fund: 988538792595242334, Pay: 3699434014558591903, Late: 4070618833521977172, Cond: 1393233766873247680, Rev: 1407143858199445074}},
		{abc, api.Kit{Fund: 1993909630015970397, Pay: 992411575967087829, Late: 1205507995731129630, Cond: 2165096956380334781, Rev: 2073062842134033349, Chain: read(t, "7e44adde104b1ea6ce588d0a22adae7d3a515f516cafac0b322b79b70fd71dd2")}, api.Basics{Fund: 1710334584628443492, Pay: 269371229580395007, Late: 1147678640489085120, Cond: 1499526892489570924, Rev: 3248435388224619695}},
	} {
		if got := Kit(x.seed); got != x.kit {
			t.Errorf("Kit(%x) = %+v, not %+v", x.seed, got, x.kit)
		}
		if got := Basics(x.kit); got != x.basics {
			t.Errorf("Basics of %x = %+v, not %+v", x.seed, got, x.basics)
		}
	}
}

// Of any seed the five scalars are from 1 to Order - 1; those of unlike seeds and places are unlike.
func TestKitOfMany(t *testing.T) {
	from := by(111)
	l := sums()
	for range 2000 {
		l = append(l, from.sum())
	}
	of := map[api.Scalar]api.Hash{}
	chains := map[api.Hash]bool{}
	for _, seed := range l {
		got := Kit(seed)
		if want := kitOf(seed); got != want {
			t.Errorf("Kit(%x) = %+v, not %+v", seed, got, want)
		}
		for _, k := range []api.Scalar{got.Fund, got.Pay, got.Late, got.Cond, got.Rev} {
			if k == 0 || k >= order {
				t.Errorf("Kit(%x) has %d", seed, k)
			}
			if other, ok := of[k]; ok {
				t.Errorf("Kit(%x) has %d, as Kit(%x)", seed, k, other)
			}
			of[k] = seed
		}
		chains[got.Chain] = true
	}
	if len(chains) != len(l) {
		t.Errorf("%d seeds have %d chains", len(l), len(chains))
	}
}

func TestBasicsOfExamples(t *testing.T) {
	for _, x := range []struct {
		kit  api.Kit
		want api.Basics
	}{
		{api.Kit{}, api.Basics{Fund: 1, Pay: 1, Late: 1, Cond: 1, Rev: 1}},
		{api.Kit{Chain: ones}, api.Basics{Fund: 1, Pay: 1, Late: 1, Cond: 1, Rev: 1}},
		{api.Kit{Fund: 1, Pay: 2, Late: 3, Cond: 4, Rev: 5}, api.Basics{Fund: 4, Pay: 16, Late: 64, Cond: 256, Rev: 1024}},
		{api.Kit{Rev: 1}, api.Basics{Fund: 1, Pay: 1, Late: 1, Cond: 1, Rev: 4}},
		{api.Kit{Fund: order - 1, Pay: order, Late: order + 1, Cond: 8 * order, Rev: 8*order + 2}, api.Basics{Fund: 1152921504606844335, Pay: 1, Late: 4, Cond: 1, Rev: 16}},
	} {
		if got := Basics(x.kit); got != x.want {
			t.Errorf("Basics(%+v) = %+v, not %+v", x.kit, got, x.want)
		}
	}
}

// Scalars may be any.
func TestBasicsOfMany(t *testing.T) {
	from := by(112)
	l := scalars()
	for range 1000 {
		l = append(l, from.scalar(), api.Scalar(from.Uint64()))
	}
	for i, k := range l {
		next := func(n int) api.Scalar { return l[(i+n)%len(l)] }
		kit := api.Kit{Fund: k, Pay: next(1), Late: next(2), Cond: next(3), Rev: next(4), Chain: from.sum()}
		if got, want := Basics(kit), basicsOf(kit); got != want {
			t.Errorf("Basics(%+v) = %+v, not %+v", kit, got, want)
		}
	}
}

// P11.2

func TestPerOfSecretsOfExamples(t *testing.T) {
	for _, x := range []struct {
		secret api.Hash
		want   api.Point
	}{
		{zeros, 4},
		{api.Hash{31: 1}, 16},
		{ones, 18597171704892725},
		{counted, 971198067788794991},
		{abc, 4019476436065621358},
	} {
		if got := PerOf(x.secret); got != x.want {
			t.Errorf("PerOf(%x) = %d, not %d", x.secret, got, x.want)
		}
	}
}

func TestPerOfManySecrets(t *testing.T) {
	from := by(113)
	l := sums()
	for range 2000 {
		l = append(l, from.sum())
	}
	for _, secret := range l {
		if got, want := PerOf(secret), perOf(secret); got != want {
			t.Errorf("PerOf(%x) = %d, not %d", secret, got, want)
		}
	}
}

// asPer holds the per-point of a number.
func asPer(t *testing.T, k api.Kit, no int, want api.Point, there bool) {
	t.Helper()
	if got, ok := Per(k, no); got != want || ok != there {
		t.Errorf("Per of %x, %d = %d, %t, not %d, %t", k.Chain, no, got, ok, want, there)
	}
}

func TestPerOfNumbersOfExamples(t *testing.T) {
	nos := []int{0, 1, 2, 299, all/2 - 1, all / 2, all - 2, all - 1}
	for _, x := range []struct {
		chain api.Hash
		want  []api.Point
	}{
		{zeros, []api.Point{1588869987987275213, 2417689900906064081, 2726457466398244047, 361962259976000207, 349983267049684863, 1739662996067685975, 3910571047739018585, 4}},
		{ones, []api.Point{4147375693262399088, 4209146443156301687, 625340220153843091, 2883133833207108589, 1533119776103382026, 1204697885771152309, 1661119574458104825, 18597171704892725}},
		{counted, []api.Point{2245909738062991098, 4461251244217827848, 172005750325951490, 1007650751501115973, 1507994415613572762, 4193721507578139710, 1382870932559130106, 971198067788794991}},
		{abc, []api.Point{1831440603742034760, 3896305073961921770, 1835939205924540049, 4024169573226302986, 517179343707400217, 3131311160921233166, 91334813990648819, 4019476436065621358}},
	} {
		for i, no := range nos {
			asPer(t, api.Kit{Chain: x.chain}, no, x.want[i], true)
		}
	}
}

func TestPerOfNumbersThatHaveNone(t *testing.T) {
	for _, k := range []api.Kit{{}, Kit(abc), {Chain: ones}} {
		for _, no := range []int{-1, -2, 1 - all, -all, -all - 1, all, all + 1, 2*all - 1, 2 * all, 1 << 31, 1 << 32, 1<<32 + 3, -1 << 32, math.MaxInt, math.MaxInt - 1, math.MaxInt - all, math.MinInt, math.MinInt + 1, math.MinInt + all - 1, math.MinInt + all} {
			asPer(t, k, no, 0, false)
		}
	}
}

// It hangs on the chain and the number alone.
func TestPerOfManyNumbers(t *testing.T) {
	from := by(114)
	for range 200 {
		k := Kit(from.sum())
		other := api.Kit{Chain: k.Chain, Fund: from.scalar(), Rev: api.Scalar(from.Uint64())}
		for range 5 {
			no := from.Intn(all)
			want := perOf(secretOf(k.Chain, no))
			asPer(t, k, no, want, true)
			asPer(t, other, no, want, true)
		}
	}
	k := Kit(zeros)
	of := map[api.Point]bool{}
	for no := range 2000 {
		p, ok := Per(k, no)
		asPer(t, k, no, perOf(secretOf(k.Chain, no)), ok)
		of[p] = true
	}
	if len(of) != 2000 {
		t.Errorf("2000 numbers have %d points", len(of))
	}
}
