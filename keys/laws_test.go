package keys

import (
	"sync"
	"testing"

	"corsned/api"
	"corsned/sign"
)

// P11.5

// follows holds what follows of a scalar, and of a revocation secret.
func follows(t *testing.T, k api.Scalar, secret api.Hash) {
	t.Helper()
	base, per := based(k), PerOf(secret)
	if got := based(MixSecret(k, per)); got != Mix(base, per) {
		t.Errorf("the point of MixSecret(%d, %d) is %d", k, per, got)
	}
	if got := based(RevokeSecret(k, secret)); got != Revoke(base, per) {
		t.Errorf("the point of RevokeSecret(%d, %x) is %d", k, secret, got)
	}
}

func TestLawsOfEdges(t *testing.T) {
	for _, k := range scalars() {
		for _, secret := range []api.Hash{zeros, ones, abc, counted, {31: 1}} {
			follows(t, k, secret)
		}
	}
	for _, secret := range sums() {
		follows(t, 0, secret)
		follows(t, 1, secret)
		follows(t, order-1, secret)
		// The same scalar and point on both sides.
		follows(t, scalarOf(secret), secret)
	}
}

func TestLawsOfMany(t *testing.T) {
	from := by(117)
	for range 2000 {
		follows(t, from.scalar(), from.sum())
		follows(t, api.Scalar(from.Uint64()), from.sum())
	}
}

// As in a channel: of two kits one's per-points mix with both ones' points.
func TestKitsOpenWhatTheirPointsGuard(t *testing.T) {
	own, other := Kit(abc), Kit(counted)
	ownPoints, otherPoints := Basics(own), Basics(other)
	for no := range 200 {
		secret := secretOf(own.Chain, no)
		per, ok := Per(own, no)
		if !ok || per != PerOf(secret) {
			t.Fatalf("Per(%d) = %d, %t", no, per, ok)
		}
		for _, x := range []struct {
			secret api.Scalar
			point  api.Point
		}{
			{MixSecret(own.Late, per), Mix(ownPoints.Late, per)},
			{MixSecret(own.Cond, per), Mix(ownPoints.Cond, per)},
			{MixSecret(other.Cond, per), Mix(otherPoints.Cond, per)},
			{RevokeSecret(other.Rev, secret), Revoke(otherPoints.Rev, per)},
		} {
			if !sign.Verify(x.point, abc, sign.Sign(x.secret, abc)) {
				t.Errorf("%d does not sign for %d", x.secret, x.point)
			}
		}
		wrong := turnedAt(secret, no)
		for _, k := range []api.Scalar{RevokeSecret(other.Rev, wrong), RevokeSecret(own.Rev, secret), MixSecret(other.Rev, per), other.Rev, scalarOf(secret)} {
			if sign.Verify(Revoke(otherPoints.Rev, per), abc, sign.Sign(k, abc)) {
				t.Errorf("%d signs for what was revoked", k)
			}
		}
	}
}

// Each commitment has keys of its own: unlike points, or numbers, or ways to mix, tell unlike ones.
func TestMixesAreUnlike(t *testing.T) {
	own := Kit(zeros)
	basics := Basics(own)
	of := map[api.Point]bool{}
	asked := 0
	for no := range 300 {
		per, _ := Per(own, no)
		for _, base := range []api.Point{basics.Fund, basics.Pay, basics.Late, basics.Cond, basics.Rev} {
			of[Mix(base, per)], of[Mix(per, base)], of[Revoke(base, per)] = true, true, true
			asked += 3
		}
	}
	if len(of) != asked {
		t.Errorf("of %d are %d unlike", asked, len(of))
	}
}

// Neither point can take the other one out: what is revoked is not the mix of what the one is less the other.
func TestNeitherTakesTheOtherOut(t *testing.T) {
	from := by(118)
	for range 500 {
		k, base := from.scalar(), from.point()
		// Whoever chose the per-point as a point of its own less base would open their plain sum alone.
		per := added(based(k), powered(base, order-1))
		for _, mine := range []api.Scalar{k, reckoned(1, k, 1, 1)} {
			if based(mine) == Revoke(base, per) {
				t.Errorf("%d alone opens Revoke(%d, %d)", mine, base, per)
			}
		}
	}
}

// What is told hangs on nothing that was asked ahead of it, or at the same time.
func TestNothingIsKept(t *testing.T) {
	var group sync.WaitGroup
	for i := range 8 {
		group.Go(func() {
			from := by(int64(119 + i/2))
			for range 100 {
				seed, no, k, secret := from.sum(), from.Intn(all), from.scalar(), from.sum()
				kit := Kit(seed)
				if kit != kitOf(seed) || Basics(kit) != basicsOf(kit) {
					t.Errorf("the kit of %x is another one", seed)
				}
				asPer(t, kit, no, perOf(secretOf(kit.Chain, no)), true)
				asSecrets(t, k, PerOf(secret), secret)
				follows(t, k, secret)
			}
		})
	}
	group.Wait()
}
