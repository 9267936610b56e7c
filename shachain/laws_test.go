package shachain

import (
	"bytes"
	"crypto/sha256"
	"math/rand"
	"testing"

	"corsned/api"
)

// P10.6

// walk tells all secrets below one, and it, in the order of their numbers: each one by one sum of the one above it.
func walk(place int, secret api.Hash, height int, tell func(no int, secret api.Hash)) {
	for k := height - 1; k >= 0; k-- {
		other := turned(secret, k)
		walk(place+1<<k, sha256.Sum256(other[:]), k, tell)
	}
	tell(all-1-place, secret)
}

// All secrets of a seed are added, in order, and told again.
func TestAllSecretsOfASeed(t *testing.T) {
	s, seed := New(), sumOf(20)
	walk(0, seed, 20, func(no int, secret api.Hash) {
		if got := s.Add(no, secret); got != api.OK || s.Next() != no+1 || s.Size() > 21 || s.Size() != sizeOf(no+1) {
			t.Fatalf("Add(%d) = %d, and %d are kept of %d", no, got, s.Size(), s.Next())
		}
		if no%9973 != 0 && no < all-3 {
			return
		}
		for _, early := range []int{0, no / 3, no / 2, no - no%1024, no} {
			asTold(t, s, early, secretOf(seed, early), true)
		}
		asTold(t, s, no+1, api.Hash{}, false)
		if !bytes.Equal(s.Bytes(), bytesOf(seed, no+1)) || !bytes.Equal(readOf(t, s.Bytes()).Bytes(), s.Bytes()) {
			t.Fatalf("the store of %d is another one", no+1)
		}
	})
	walk(0, seed, 20, func(no int, secret api.Hash) {
		if no%7 == 0 || no < 1000 || no > all-1000 {
			asTold(t, s, no, secret, true)
		}
	})
	if s.Next() != all || s.Size() != 21 || s.Add(all, seed) != api.ErrArg {
		t.Errorf("%d were added, %d are kept", s.Next(), s.Size())
	}
}

// What Secret tells may be added.
func TestSecretsMayBeAdded(t *testing.T) {
	for _, seed := range seeds() {
		s := New()
		for no := range 1500 {
			secret, _ := Secret(seed, no)
			if got := s.Add(no, secret); got != api.OK {
				t.Fatalf("Add(%d) of what Secret tells = %d", no, got)
			}
		}
		for no := range 1500 {
			secret, _ := Secret(seed, no)
			asTold(t, s, no, secret, true)
		}
	}
}

// Unlike numbers, and unlike seeds, have unlike secrets.
func TestSecretsAreUnlike(t *testing.T) {
	seen := map[api.Hash]bool{}
	for _, seed := range seeds() {
		for no := range 2000 {
			for _, no := range []int{no, all - 1 - no} {
				secret, ok := Secret(seed, no)
				if !ok || seen[secret] {
					t.Fatalf("Secret(%x, %d) = %x, %t, which another one is", seed, no, secret, ok)
				}
				seen[secret] = true
			}
		}
	}
}

// What a store answers, whatever is added to it and asked of it, is what the model says.
func TestStoresAreAsTheModel(t *testing.T) {
	random := rand.New(rand.NewSource(21))
	for round := range 400 {
		row := rowOf(1+random.Intn(200), round)
		s, m := New(), modelOf()
		for range 2 * len(row) {
			no, secret := m.next, sumOf(random.Intn(50))
			if random.Intn(20) == 0 {
				no += random.Intn(7) - 3
			}
			if no >= 0 && no < len(row) && random.Intn(200) > 0 {
				secret = row[no]
			}
			if no >= 0 && no < len(row) && random.Intn(20) == 0 && no%2 == 1 {
				secret = turned(row[no], random.Intn(256))
			}
			if got, want := s.Add(no, secret), m.add(no, secret); got != want {
				t.Fatalf("Add(%d, %x) behind %d = %d, not %d", no, secret, m.next, got, want)
			}
			no = random.Intn(m.next+6) - 2
			want, there := m.get(no)
			asTold(t, s, no, want, there)
			if random.Intn(30) == 0 {
				same(t, s, m)
				s = readOf(t, s.Bytes())
			}
		}
		same(t, s, m)
	}
}
