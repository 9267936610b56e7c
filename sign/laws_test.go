package sign

import (
	"math"
	"sync"
	"testing"

	"corsned/api"
)

// P7.5

// follows holds what follows of a key, a sum and a secret that is lacking.
func follows(t *testing.T, k api.Scalar, m api.Hash, secret api.Scalar) {
	t.Helper()
	p, lacking := powered(generator, k), powered(generator, secret)
	s := Sign(k, m)
	if !Verify(p, m, s) || s != Sign(k, m) {
		t.Errorf("what %d signs of %x, %d, is not verified", k, m, s)
	}
	pre := Pre(k, m, lacking)
	if !Checks(p, m, lacking, pre) || pre != Pre(k, m, lacking) {
		t.Errorf("what %d signs of %x, %d, does not check but for the secret of %d", k, m, pre, lacking)
	}
	if Verify(p, m, pre) != (secret == 0) || Checks(p, m, lacking, s) != (secret == 0) {
		t.Errorf("of %d: %d is whole, or %d lacks the secret of %d", k, pre, s, lacking)
	}
	full := Adapt(pre, secret)
	if !Verify(p, m, full) || full.R != pre.R {
		t.Errorf("%d, with %d, is not verified as %d", pre, secret, full)
	}
	if got := Extract(pre, full); got != secret {
		t.Errorf("%d and %d tell %d, not %d", pre, full, got, secret)
	}
	if got := Adapt(full, Extract(full, pre)); got != pre {
		t.Errorf("%d less %d is %d, not %d", full, secret, got, pre)
	}
	if other := secret ^ 1; other < order && Verify(p, m, Adapt(pre, other)) {
		t.Errorf("%d, with %d in the stead of %d, is verified", pre, other, secret)
	}
}

func TestLawsOfEdges(t *testing.T) {
	for _, k := range keys() {
		for _, secret := range append(keys(), 0) {
			if good(k) && secret < order {
				follows(t, k, abc, secret)
			}
		}
	}
	for _, m := range sums() {
		follows(t, 1, m, 0)
		follows(t, 1, m, 1)
		follows(t, order-1, m, order-1)
		follows(t, Key(m), m, Key(m))
	}
}

func TestLawsOfMany(t *testing.T) {
	from := by(84)
	for range 2000 {
		follows(t, from.key(), from.sum(), from.key())
		follows(t, Key(from.sum()), from.sum(), Key(from.sum()))
	}
}

// Of one point, one sum and one R there is one S alone, whole or lacking.
func TestOneSAlone(t *testing.T) {
	from := by(85)
	for range 30 {
		k, m, secret := from.key(), from.sum(), from.key()
		p, lacking := powered(generator, k), powered(generator, secret)
		s, pre := Sign(k, m), Pre(k, m, lacking)
		others := keys()
		for n := range api.Scalar(100) {
			others = append(others, n, s.S+n, s.S-n, pre.S+n, pre.S-n, order-1-n, s.S+n*order, pre.S+n*order, from.key())
		}
		for _, other := range others {
			if Verify(p, m, api.Sig{R: s.R, S: other}) != (other == s.S) {
				t.Errorf("Verify(%d, %x) of R %d and S %d", p, m, s.R, other)
			}
			if Checks(p, m, lacking, api.Sig{R: pre.R, S: other}) != (other == pre.S) {
				t.Errorf("Checks(%d, %x, %d) of R %d and S %d", p, m, lacking, pre.R, other)
			}
		}
	}
}

// Unlike keys, sums and points that lack their secret have unlike nonces: whoever saw two of one could tell the key.
func TestUnlikeHaveUnlikeR(t *testing.T) {
	from := by(86)
	of := map[api.Point]bool{}
	asked := 0
	ask := func(r api.Point) {
		of[r] = true
		asked++
	}
	for range 300 {
		k, m, lacking := from.key(), from.sum(), from.point()
		for _, k := range []api.Scalar{k, k ^ 1} {
			for _, m := range []api.Hash{m, turnedAt(m, from.Intn(256))} {
				ask(Sign(k, m).R)
				ask(Pre(k, m, 1).R)
				for _, lacking := range []api.Point{lacking, powered(lacking, 2)} {
					s := Pre(k, m, lacking)
					ask(s.R)
					// Less the point that is added to it, it is that of the nonce alone.
					ask(added(s.R, powered(lacking, order-1)))
				}
			}
		}
	}
	if len(of) != asked {
		t.Errorf("of %d are %d unlike", asked, len(of))
	}
}

// What is no key, or not right, is told nothing of by any call.
func TestNothingOfNoKey(t *testing.T) {
	for _, k := range []api.Scalar{0, order, order + 1, 8*order + 1, math.MaxUint64} {
		s := Sign(k, abc)
		if s != (api.Sig{}) || s != Pre(k, abc, 4) {
			t.Errorf("%d, which is no key, signs %d", k, s)
		}
		for _, p := range points() {
			if Verify(p, abc, s) || Checks(p, abc, 4, s) {
				t.Errorf("what is no signature holds for %d", p)
			}
		}
	}
}

// What is told hangs on nothing that was asked ahead of it, or at the same time.
func TestNothingIsKept(t *testing.T) {
	var all sync.WaitGroup
	for i := range 8 {
		all.Go(func() {
			from := by(int64(87 + i/2))
			for range 200 {
				k, m, secret := from.key(), from.sum(), from.key()
				follows(t, k, m, secret)
				if s := Sign(k, m); s != signedBy(k, m) || Key(m) != summed("key", m[:]) {
					t.Errorf("what %d signs of %x is %d", k, m, s)
				}
				if Verify(powered(generator, secret), m, Sign(k, m)) {
					t.Errorf("what %d signs holds for %d", k, secret)
				}
			}
		})
	}
	all.Wait()
}
