package shachain

import (
	"bytes"
	"crypto/sha256"
	"slices"
	"testing"

	"corsned/api"
)

// P10.1

func TestSecretOfExamples(t *testing.T) {
	type pinned struct {
		no   int
		want string
	}
	for _, x := range []struct {
		seed api.Hash
		row  []pinned
	}{
		{api.Hash{}, []pinned{
			{0, "7a0ce522095887bfe209a006276dcd654b1c5abf9894e7cab43b1c0cc3c6bf8d"},
			{1, "b45a572125affb19be1030940fea995b66741851e5dd7b8dfd21cdd3f0283dc8"},
			{2, "ed5703529cb12856293c39b891a3a9f4bf157414cfdfabd11bf5affe787c1fbc"},
			{255, "69c7705577a3d555e54ab5920735a50dbc6f70179bcbdab4f22054b0c93c844c"},
			{256, "c3f483619399ec81cb39422b32a14174a79d751b7e4e9ec7281fd8b61176f11a"},
			{349525, "06ea62b935d8ed544dfef64f4f7ca85376231cbeb30673c739c107d00de2e27f"},
			{524287, "4c49b88894d742530818a686961a640ca28692c2e2ad020b7cfd86de3e594068"},
			{524288, "2ce5504affc216930e9a9b21ad55d59807aecb391f0714fa92b45133d09a766a"},
			{699050, "746ef2694d536101ef2edd3b1736eaa1b9ef8b36e8cdee1c963c92daa5f8e56b"},
			{983039, "1eb50e78e6dfb0a4725fb71ba0443c3129a6822213f3d40da2439fcd2bced580"},
			{1048318, "a664cef60b4ec2a9274d769474dcd9e6e7c8e15ca4ebab05b656a0a9aea1506c"},
			{1048573, "5778f985db754c6628691f56fadae50c65fddbe8eb2e93039633fefa05d45e31"},
			{1048574, "01d0fabd251fcbbe2b93b4b927b26ad2a1a99077152e45ded1e678afa45dbec5"},
			{1048575, "0000000000000000000000000000000000000000000000000000000000000000"},
		}},
		{rising(), []pinned{
			{0, "f3a847cb56bbea7e46a097456ac2e2751b074b04ec22259cfdcb7d707a66d16c"},
			{1, "dd0309959c5697b44ef4c2b08c331248c14060fab846e7916fe0cb008cfbd77c"},
			{2, "3130ec19cd2248b9a494e3eddf09287ca3289098bf9892c27a64021841d77b91"},
			{255, "241ab67ee75ee2f8e2e0b65fe2ecbbac01b7aa0d491ac4dfa684524b3d3db006"},
			{256, "bd82e19d8cc7fca2a26c2e8e9d18b62f858abb80fb9c1e8a6a9f9a44f3b5a124"},
			{349525, "7828d3c4973ea83c3b52a0f879499bb67939b47ffe67f8b3bfd5ea07a36dac53"},
			{524287, "ece6658be1bbe9aa5ac3c9f1bbf699f4d2936c1fb396c4bded423b52a6e68f64"},
			{524288, "b477d4b7fd0a68e262807e7665670895441567fdf7e9b42a4a5d21f74ec2a0fc"},
			{699050, "49d834f244fb2ded094d9de854826124dc7c6eec965c421dd059cd9eb962bbba"},
			{983039, "c7cd33a8f8b8c68d79b583e3c9d36077f9b15d835ddcb1c54b406537c1311254"},
			{1048318, "04627355a200dd749331a612bdf7eb131dcf4eb8e52371ad7d4e38fd1c36790d"},
			{1048573, "971b2f74a39ea1bfd5428bc43001c10cf4e66869879118888d4a3ae1b90efeeb"},
			{1048574, "cac2f595781630e4e929c6f9d5ab3986c861d731b4c6cb868380353c48e80d61"},
			{1048575, "000102030405060708090a0b0c0d0e0f101112131415161718191a1b1c1d1e1f"},
		}},
		{each(255), []pinned{
			{0, "c5d8e3fc79785c9bcfb14b3381bc87f8bc39a66c9e92d8e9f25f72670c49283e"},
			{1, "ed2770707aa31123d46ba948111212a8876981217bf541b36d7b3362f43a9095"},
			{2, "08be47704669fd509bb3b7d100e8c08acfdef17d94360fabd709698cf0adf872"},
			{255, "12b7e36c9b5e8bf3df69a80b57ed0ddd81bc1649d4975b594e093433869c7d6a"},
			{256, "5326eff66a2a74de4741fba63e2ec772d89e50496bc03afdad90b5f44aa9df00"},
			{349525, "6111491e45d3cb828f646ebd393d6892d6faed5efcf5f792f19de13c7c597857"},
			{524287, "6ba7bc7d5d9edcd6b5058ecec3041c101b7a880fed75edee336c9ba86e17649e"},
			{524288, "1e999d45627958bbb2b0e41713cffc9e49a0055094c6b7a0cf1e14625e823222"},
			{699050, "9903dcf859c7e1ecb8c52e20e24af06eb40161c140af37fd34b024c7f1406578"},
			{983039, "55c599d2d33784737eec489b44878ef42f604ae929784b1bad892b77cd68010e"},
			{1048318, "b4acfa565d888bab5e2a01706c9f833b40e038698b886eb0681552a742fdc411"},
			{1048573, "690f2101116dbb65e398b0e4c156217db549ad87f83377a7c5aa6f545ca6a006"},
			{1048574, "019da9f8b93daf2ffbe0b46e64d0fb695532c36cc862228ce829aed641811322"},
			{1048575, "ffffffffffffffffffffffffffffffffffffffffffffffffffffffffffffffff"},
		}},
		{each(1), []pinned{
			{0, "f26d0ab2eacc912a45b94c72276d3c948307b61c7863266df24139d26bbcc43c"},
			{1, "f0657e57f18363d9f34b3d0df4a1a7f9ea0a211bda202320ae946323cf8445c5"},
			{2, "33cd781579d6eba6415f08f81ad17603979cdbdb3e88947c05ebdde7206594b1"},
			{255, "a8f811bb8465d793df9875a824b3a68e90be471fc35a16fee12d682fd48f5571"},
			{256, "e78831d3130617dbf0ba64bac3d5515d70c56eed39dd398135473bf3fffb740c"},
			{349525, "1aee7b909380270d5099a0e05d49ce4c078e71b3ff1ea8e76caa07edea17d341"},
			{524287, "b7ac49174688a823c0f86f718f562e39720b97d94d8e3e0c104b920920aaacd5"},
			{524288, "b5ce7095d5e451aaf56d199a7f6ce2c7334bf0a916a00cad3ac80279303e1865"},
			{699050, "2a4cab7ba40fab3436fe9952e15c0663b34193889fb83adf5d61518de5db0e51"},
			{983039, "3ef8dc7116571f28de2fbabec53a0ccdd8a80cf73d5b262e2df1749c715567b9"},
			{1048318, "ab25f3d393f88b442ad1b1745498366ae11577151655d6e3ab831066f4baa015"},
			{1048573, "507d9bd194764f6408614938cc2b4e28527fa1045ecbc0ac9ebdd9f5dad97273"},
			{1048574, "915c75942a26bb3a433a8ce2cb0427c29ec6c1775cfc78328b57f6ba7bfeaa9c"},
			{1048575, "0101010101010101010101010101010101010101010101010101010101010101"},
		}},
	} {
		for _, p := range x.row {
			if got, ok := Secret(x.seed, p.no); !bytes.Equal(got[:], read(t, p.want)) || !ok {
				t.Errorf("Secret(%x, %d) = %x, %t", x.seed, p.no, got, ok)
			}
		}
	}
}

func TestSecretOfTheLastNumberIsTheSeed(t *testing.T) {
	for _, seed := range seeds() {
		if got, ok := Secret(seed, 1<<20-1); got != seed || !ok {
			t.Errorf("Secret(%x) of the last one = %x, %t", seed, got, ok)
		}
	}
}

// A place of one digit that is 1 asks for one sum, of the seed with that digit's bit changed.
func TestSecretOfSingleDigits(t *testing.T) {
	for _, seed := range seeds() {
		for k := range 20 {
			other := seed
			other[k/8] ^= 1 << (k % 8)
			if got, ok := Secret(seed, all-1-1<<k); got != sha256.Sum256(other[:]) || !ok {
				t.Errorf("Secret(%x) at the place of 2^%d = %x, %t", seed, k, got, ok)
			}
		}
	}
}

func TestSecretOfManyNumbers(t *testing.T) {
	for i, seed := range seeds() {
		for no := i; no < all; no += 997 {
			if got, ok := Secret(seed, no); got != secretOf(seed, no) || !ok {
				t.Fatalf("Secret(%x, %d) = %x, %t", seed, no, got, ok)
			}
		}
		for bit := range 20 {
			for _, no := range []int{1<<bit - 1, 1 << bit, 1<<bit + 1, all - 1<<bit - 1, all - 1<<bit, min(all-1<<bit+1, all-1)} {
				if got, ok := Secret(seed, no); got != secretOf(seed, no) || !ok {
					t.Fatalf("Secret(%x, %d) = %x, %t", seed, no, got, ok)
				}
			}
		}
	}
}

func TestSecretOfOtherNumbers(t *testing.T) {
	for _, seed := range seeds() {
		for _, no := range wrongNos() {
			if got, ok := Secret(seed, no); got != (api.Hash{}) || ok {
				t.Errorf("Secret(%x, %d) = %x, %t", seed, no, got, ok)
			}
		}
	}
}

// P10.2

func TestNewHasNone(t *testing.T) {
	s := New()
	if s.Next() != 0 || s.Size() != 0 || !bytes.Equal(s.Bytes(), []byte{0}) {
		t.Errorf("New has %d, %d, %x", s.Next(), s.Size(), s.Bytes())
	}
	for _, no := range append(wrongNos(), 0, 1, 2, all-2, all-1) {
		asTold(t, s, no, api.Hash{}, false)
	}
}

func TestAddInOrder(t *testing.T) {
	for _, seed := range seeds() {
		s := New()
		for no := range 300 {
			if got := s.Next(); got != no {
				t.Fatalf("Next = %d, not %d", got, no)
			}
			if got := s.Add(no, secretOf(seed, no)); got != api.OK {
				t.Fatalf("Add(%d) = %d", no, got)
			}
		}
	}
}

// What was refused changes nothing.
func refused(t *testing.T, s *Store, no int, secret api.Hash, want api.Errno) {
	t.Helper()
	next, was := s.Next(), s.Bytes()
	if got := s.Add(no, secret); got != want || s.Next() != next || !bytes.Equal(s.Bytes(), was) {
		t.Fatalf("Add(%d, %x) behind %d = %d, not %d, or it changed the store", no, secret, next, got, want)
	}
}

func TestAddOfOtherNumbers(t *testing.T) {
	seed := sumOf(3)
	s := New()
	for next := range 70 {
		for _, no := range append(wrongNos(), next-2, next-1, next+1, next+2, next+64, next+all, all-1, all-1-next) {
			secret := sumOf(4)
			if no >= 0 && no < all {
				secret = secretOf(seed, no)
			}
			refused(t, s, no, secret, api.ErrArg)
			refused(t, s, no, secretOf(seed, next), api.ErrArg)
		}
		if got := s.Add(next, secretOf(seed, next)); got != api.OK {
			t.Fatalf("Add(%d) = %d", next, got)
		}
	}
}

// Of a number whose place's height is 0 any secret is added; of others, none from which one doesn't come to those that are kept.
func TestAddOfOtherSecrets(t *testing.T) {
	for _, seed := range []api.Hash{{}, rising(), sumOf(5)} {
		row := []api.Hash{}
		for no := range 130 {
			secret := secretOf(seed, no)
			others := []api.Hash{{}, seed, sumOf(no), secretOf(seed, no+1), secretOf(sumOf(6), no), sha256.Sum256(secret[:])}
			if no > 0 {
				others = append(others, row[no-1])
			}
			for bit := range 256 {
				others = append(others, turned(secret, bit))
			}
			s, _ := added(t, row)
			for _, other := range others {
				if no%2 == 1 {
					refused(t, s, no, other, api.ErrProof)
				} else if free := readOf(t, s.Bytes()); free.Add(no, other) != api.OK || free.Next() != no+1 {
					t.Fatalf("Add(%d, %x) is refused", no, other)
				}
			}
			if got := s.Add(no, secret); got != api.OK {
				t.Fatalf("Add(%d) behind refused ones = %d", no, got)
			}
			row = append(row, secret)
		}
	}
}

// A secret has to fit each one below it: also where it fits all but one.
func TestAddWhereOneDoesNotFit(t *testing.T) {
	for height := 1; height <= 7; height++ {
		last := 1<<height - 1
		for wrong := range last {
			row := []api.Hash{}
			for no := range last {
				row = append(row, secretOf(rising(), no))
			}
			row[wrong] = turned(row[wrong], wrong)
			s, m := New(), modelOf()
			stuck := false
			for no, secret := range row {
				got, want := s.Add(no, secret), m.add(no, secret)
				if got != want {
					t.Fatalf("Add(%d) where %d is wrong = %d, not %d", no, wrong, got, want)
				}
				if stuck = got != api.OK; stuck {
					break
				}
			}
			if stuck {
				continue
			}
			refused(t, s, last, secretOf(rising(), last), api.ErrProof)
		}
	}
}

// Wherever one comes not to the other ones, a secret may be of another seed.
func TestAddOfManySeeds(t *testing.T) {
	for n := range 300 {
		row := rowOf(n, 100*n)
		s, m := added(t, row)
		for no, secret := range row {
			asTold(t, s, no, secret, true)
		}
		if want := m.add(n, sumOf(n)); s.Add(n, sumOf(n)) != want || (want == api.OK) != (n%2 == 0) {
			t.Fatalf("Add(%d) of a seed of its own, not %d", n, want)
		}
		same(t, s, m)
	}
}

// At each height the secret is held against those of all lesser ones, of which any one may be wrong.
func TestAddAtGreatHeights(t *testing.T) {
	for height := 1; height <= 20; height++ {
		no := 1<<height - 1
		whole := bytesOf(rising(), no)
		s := readOf(t, whole)
		for _, secret := range []api.Hash{{}, rising(), sumOf(1), turned(secretOf(rising(), no), 3), secretOf(sumOf(1), no)} {
			if secret != secretOf(rising(), no) {
				refused(t, s, no, secret, api.ErrProof)
			}
		}
		if got := s.Add(no, secretOf(rising(), no)); got != api.OK {
			t.Fatalf("Add(%d) = %d", no, got)
		}
		if !bytes.Equal(s.Bytes(), bytesOf(rising(), no+1)) {
			t.Fatalf("the store of %d is another one", no+1)
		}
		for below := range height {
			// Each number's last digits are 1, so that each height is a root of its own, and may be anything.
			b := slices.Clone(whole)
			b[len(b)-32*(height-below)] ^= 4
			s := readOf(t, b)
			refused(t, s, no, secretOf(rising(), no), api.ErrProof)
		}
	}
}

func TestAddToAFullStore(t *testing.T) {
	for _, seed := range seeds() {
		s := readOf(t, bytesOf(seed, all))
		if s.Next() != all || s.Size() != 21 {
			t.Fatalf("%d, %d kept", s.Next(), s.Size())
		}
		for _, no := range append(wrongNos(), 0, 1, all-1) {
			for _, secret := range []api.Hash{{}, seed, sumOf(9)} {
				refused(t, s, no, secret, api.ErrArg)
			}
		}
	}
}

// P10.3

func TestGetOfOtherNumbers(t *testing.T) {
	for _, n := range []int{0, 1, 2, 3, 4, 5, 7, 8, 9, 100, 65535, 65536, 65537, 524287, 524288, 524289, all - 2, all - 1, all} {
		s := readOf(t, bytesOf(sumOf(7), n))
		for _, no := range append(wrongNos(), n, n+1, n+2, 2*n+1, n+all, n-all-1, all+n, max(n, all-1)+1) {
			asTold(t, s, no, api.Hash{}, false)
		}
		for no := n; no < all; no += 1 + (all-n)/50 {
			asTold(t, s, no, api.Hash{}, false)
		}
	}
}

func TestGetOfAllThatWereAdded(t *testing.T) {
	for _, n := range []int{1, 2, 3, 4, 5, 7, 8, 9, 100, 1000, 65535, 65536, 65537, 349525, 524287, 524288, 524289, 699050, all - 2, all - 1, all} {
		s := readOf(t, bytesOf(sumOf(8), n))
		for no := range min(n, 40) {
			asTold(t, s, no, secretOf(sumOf(8), no), true)
			asTold(t, s, n-1-no, secretOf(sumOf(8), n-1-no), true)
		}
		for no := 0; no < n; no += 1 + n/700 {
			asTold(t, s, no, secretOf(sumOf(8), no), true)
		}
	}
}

func TestSize(t *testing.T) {
	for _, x := range []struct{ n, want int }{
		{0, 0}, {1, 1}, {2, 2}, {3, 2}, {4, 3}, {5, 3}, {6, 3}, {7, 3}, {8, 4}, {9, 4}, {15, 4}, {16, 5}, {100, 7}, {1023, 10}, {1024, 11}, {1025, 11},
		{524287, 19}, {524288, 20}, {524289, 20}, {all - 1, 20}, {all, 21},
	} {
		if got := readOf(t, bytesOf(sumOf(9), x.n)).Size(); got != x.want {
			t.Errorf("Size of %d = %d, not %d", x.n, got, x.want)
		}
	}
}
