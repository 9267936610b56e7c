package keys

import (
	"testing"

	"corsned/api"
)

// asMixed holds both mixes of two points.
func asMixed(t *testing.T, base, per, mix, revoke api.Point) {
	t.Helper()
	if got := Mix(base, per); got != mix {
		t.Errorf("Mix(%d, %d) = %d, not %d", base, per, got, mix)
	}
	if got := Revoke(base, per); got != revoke {
		t.Errorf("Revoke(%d, %d) = %d, not %d", base, per, got, revoke)
	}
}

// P11.3, P11.4

func TestMixesOfExamples(t *testing.T) {
	for _, x := range []struct{ base, per, mix, revoke api.Point }{
		{1, 1, 2826531068393364786, 1},
		{1, 4, 222259788778507917, 603859837379652534},
		{1, 16, 3340223916666065139, 1437201727842639356},
		{1, 9, 2528394923512628013, 2891169216986761748},
		{4, 1, 3403693626271962980, 603859837379652534},
		{4, 4, 1126969235996959916, 1053999836502103531},
		{4, 16, 1554407940289624026, 3236263655465713257},
		{4, 9, 2680183883252009975, 859214327182351206},
		{16, 1, 2649183903445101603, 1437201727842639356},
		{16, 4, 714602906453602296, 3236263655465713257},
		{16, 16, 3002163495357914600, 2390705385455491870},
		{16, 9, 1982078243350273557, 1677806408853965116},
		{5, 1, 1884979617429783861, 3946051580645795199},
		{5, 4, 3667441853394382980, 4332032843851695591},
		{5, 16, 656183521138610115, 207905885107399482},
		{5, 9, 4150245149764529252, 2877005766360695867},
		{modulus - 2, 1, 4558437114879371175, 4484701268709677378},
		{modulus - 2, 4, 3592402918760589693, 1329401430791823114},
		{modulus - 2, 16, 3153342988638828582, 4004631691873424447},
		{modulus - 2, 9, 1319543525619589355, 4565892364538299919},
		{order, 1, 433894898051174653, 561125138002772513},
		{order, 4, 1606583564349677099, 2268340381919757983},
		{order, 16, 4427536214787288124, 4471171264093616251},
		{order, 9, 2952780318806242270, 2611003950711691688},
		{3252390820824618450, 1, 2335057996845980852, 2066931490582381590},
		{3252390820824618450, 4, 2230019397889689364, 2752518105636118287},
		{3252390820824618450, 16, 1419781336023718971, 3245383021242599563},
		{3252390820824618450, 9, 2928797470538413668, 3365559512140842022},
	} {
		asMixed(t, x.base, x.per, x.mix, x.revoke)
	}
}

func TestMixesOfEdges(t *testing.T) {
	l := points()
	for _, p := range l {
		if !right(p) {
			t.Fatalf("%d is not right", p)
		}
		for _, q := range l[:45] {
			asMixed(t, p, q, mixed(p, q), revoked(p, q))
			asMixed(t, q, p, mixed(q, p), revoked(q, p))
		}
	}
}

func TestMixesOfMany(t *testing.T) {
	from := by(115)
	for range 3000 {
		p, q := from.point(), from.point()
		asMixed(t, p, q, mixed(p, q), revoked(p, q))
	}
}

// Scalars may be any; what is told is right.
func TestSecretsOfExamples(t *testing.T) {
	for _, x := range []struct{ k, mix1, mix4, mix9, revokeZeros, revokeAbc api.Scalar }{
		{0, 1545897794965878207, 2282104283856459035, 204233443377872369, 28438157564514451, 2117863826352551438},
		{1, 1138437956326930123, 1650911943784382414, 1100612874848799036, 769378365220665976, 557737420051737445},
		{2, 1801552867699832852, 676584799272985690, 963543595371805631, 710030476143317699, 2076707957851167304},
		{order - 1, 1338927666511809586, 1206472319807896637, 543137345327612818, 15317048519885436, 281195841782542600},
		{order, 1545897794965878207, 2282104283856459035, 204233443377872369, 28438157564514451, 2117863826352551438},
		{order + 1, 1138437956326930123, 1650911943784382414, 1100612874848799036, 769378365220665976, 557737420051737445},
		{2 * order, 1545897794965878207, 2282104283856459035, 204233443377872369, 28438157564514451, 2117863826352551438},
		{8*order + 1, 1138437956326930123, 1650911943784382414, 1100612874848799036, 769378365220665976, 557737420051737445},
		{18446744073709551615, 664879988115929292, 260343123327562181, 162825009426683019, 853639129480153581, 299643720432654074},
		{347079452541892102, 618873274842262481, 2099250154098169571, 960372980673701538, 1790643822470942595, 1979899347447932480},
	} {
		for per, want := range map[api.Point]api.Scalar{1: x.mix1, 4: x.mix4, 9: x.mix9} {
			if got := MixSecret(x.k, per); got != want {
				t.Errorf("MixSecret(%d, %d) = %d, not %d", x.k, per, got, want)
			}
		}
		for secret, want := range map[api.Hash]api.Scalar{zeros: x.revokeZeros, abc: x.revokeAbc} {
			if got := RevokeSecret(x.k, secret); got != want {
				t.Errorf("RevokeSecret(%d, %x) = %d, not %d", x.k, secret, got, want)
			}
		}
	}
}

// asSecrets holds both secrets of a scalar, a point and a revocation secret.
func asSecrets(t *testing.T, k api.Scalar, per api.Point, secret api.Hash) {
	t.Helper()
	if got, want := MixSecret(k, per), mixedSecret(k, per); got != want || got >= order {
		t.Errorf("MixSecret(%d, %d) = %d, not %d", k, per, got, want)
	}
	if got, want := RevokeSecret(k, secret), revokedSecret(k, secret); got != want || got >= order {
		t.Errorf("RevokeSecret(%d, %x) = %d, not %d", k, secret, got, want)
	}
}

func TestSecretsOfEdges(t *testing.T) {
	pers, secrets := points(), sums()
	for i, k := range scalars() {
		for n := range 20 {
			asSecrets(t, k, pers[(i+n)%len(pers)], secrets[(i+n)%len(secrets)])
		}
		for _, secret := range []api.Hash{zeros, ones, abc, counted} {
			asSecrets(t, k, 1, secret)
		}
	}
}

func TestSecretsOfMany(t *testing.T) {
	from := by(116)
	for range 2000 {
		asSecrets(t, from.scalar(), from.point(), from.sum())
		asSecrets(t, api.Scalar(from.Uint64()), from.point(), from.sum())
	}
}
