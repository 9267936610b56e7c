package shachain

import (
	"bytes"
	"crypto/sha256"
	"encoding/binary"
	"math"
	"math/rand"
	"slices"
	"testing"

	"corsned/api"
)

// P10.4

// filled tells a store of a seed's first n secrets.
func filled(t *testing.T, seed api.Hash, n int) *Store {
	t.Helper()
	row := []api.Hash{}
	for no := range n {
		row = append(row, secretOf(seed, no))
	}
	s, _ := added(t, row)
	return s
}

func TestBytesOfExamples(t *testing.T) {
	for _, x := range []struct {
		seed api.Hash
		n    int
		want string
	}{
		{api.Hash{}, 0, "00"},
		{api.Hash{}, 1, "017a0ce522095887bfe209a006276dcd654b1c5abf9894e7cab43b1c0cc3c6bf8d"},
		{api.Hash{}, 2, "027a0ce522095887bfe209a006276dcd654b1c5abf9894e7cab43b1c0cc3c6bf8db45a572125affb19be1030940fea995b66741851e5dd7b8dfd21cdd3f0283dc8"},
		{api.Hash{}, 3, "03ed5703529cb12856293c39b891a3a9f4bf157414cfdfabd11bf5affe787c1fbcb45a572125affb19be1030940fea995b66741851e5dd7b8dfd21cdd3f0283dc8"},
		{api.Hash{}, 4, "04ed5703529cb12856293c39b891a3a9f4bf157414cfdfabd11bf5affe787c1fbcb45a572125affb19be1030940fea995b66741851e5dd7b8dfd21cdd3f0283dc86005c78bb3eae8efe53fbc4ed72b8fcc08f932621cb3106efa8a7bcef3b34f0b"},
		{rising(), 0, "00"},
		{rising(), 1, "01f3a847cb56bbea7e46a097456ac2e2751b074b04ec22259cfdcb7d707a66d16c"},
		{rising(), 2, "02f3a847cb56bbea7e46a097456ac2e2751b074b04ec22259cfdcb7d707a66d16cdd0309959c5697b44ef4c2b08c331248c14060fab846e7916fe0cb008cfbd77c"},
		{rising(), 3, "033130ec19cd2248b9a494e3eddf09287ca3289098bf9892c27a64021841d77b91dd0309959c5697b44ef4c2b08c331248c14060fab846e7916fe0cb008cfbd77c"},
		{rising(), 4, "043130ec19cd2248b9a494e3eddf09287ca3289098bf9892c27a64021841d77b91dd0309959c5697b44ef4c2b08c331248c14060fab846e7916fe0cb008cfbd77c3cbb0e8e0baeaed4adc5df6fbb1f1444b3e49fb1a5e58643d6809c2b40e5cab9"},
		{each(255), 0, "00"},
		{each(255), 1, "01c5d8e3fc79785c9bcfb14b3381bc87f8bc39a66c9e92d8e9f25f72670c49283e"},
		{each(255), 2, "02c5d8e3fc79785c9bcfb14b3381bc87f8bc39a66c9e92d8e9f25f72670c49283eed2770707aa31123d46ba948111212a8876981217bf541b36d7b3362f43a9095"},
		{each(255), 3, "0308be47704669fd509bb3b7d100e8c08acfdef17d94360fabd709698cf0adf872ed2770707aa31123d46ba948111212a8876981217bf541b36d7b3362f43a9095"},
		{each(255), 4, "0408be47704669fd509bb3b7d100e8c08acfdef17d94360fabd709698cf0adf872ed2770707aa31123d46ba948111212a8876981217bf541b36d7b3362f43a909516f197087cb6d5875c0bb14192f353058e431e9514e5d24b562e4ce24528457f"},
	} {
		want := read(t, x.want)
		if got := filled(t, x.seed, x.n).Bytes(); !bytes.Equal(got, want) {
			t.Errorf("Bytes of %d of %x = %x", x.n, x.seed, got)
		}
		readOf(t, want)
	}
}

func TestBytesOfLongExamples(t *testing.T) {
	for _, x := range []struct {
		seed    api.Hash
		n, size int
		sum     string
	}{
		{api.Hash{}, 6, 97, "45830fb8b5782cfd586c9c364b157dddf6f765b718201068cc29eb2f70862521"},
		{api.Hash{}, 7, 97, "530874ce10656280e94ba5f6627bee7094c693c3225d8acb0d2e5938afdbe462"},
		{api.Hash{}, 100, 225, "dfbb3d0c0db688c205be9ba4bcf38f1ec4d62564b42c9d7f45369e8a8d74609f"},
		{api.Hash{}, 128, 258, "8e1d158e9886787c08dbc3842f090ee02c1cd703ae1e8ac06a0fffc249702285"},
		{api.Hash{}, 1000, 322, "9720c31562e69d6aa03ff8fdbdcdeec69cbc42a15ffc52b19754da342d82ee5a"},
		{api.Hash{}, 65536, 547, "76b938c4680b53c280bca980e4d51a453d0728658a42d6ad5f9564db7b48ace8"},
		{api.Hash{}, 524287, 611, "f08d2bfe64686927463a9fb28e197c8b7d708a4117474d496f85e82f58342f29"},
		{api.Hash{}, 699050, 643, "bac4fed4de807966fa41c9c55d59174968486f85fb4d03069f771e5f916d9976"},
		{api.Hash{}, 1048575, 643, "8151d77975f6c2ee3eea692aa7f5f8e6b4afc97121bec488654d54857d9c559b"},
		{api.Hash{}, 1048576, 675, "ea1cb301519f9c35d31f77da3aa89584219d9f67ef7c2535b7ec821785daeafb"},
		{rising(), 6, 97, "a3395a2e5be34265f9dff08649a0e3c579627ea6f75318020524a571cbee57b6"},
		{rising(), 7, 97, "99ed26e86bdef36a83cddbbe3ad9a952742ad43d430a82adf7d3c75201452f1e"},
		{rising(), 100, 225, "e2ee706bb878c668e234be3b396d23a6b0725e3928fd1f6fd45101c176397dc2"},
		{rising(), 128, 258, "f4186e4b63478cc17be49e3ed7add56aadd932374e1052f2387cfc8b368c4833"},
		{rising(), 1000, 322, "702496562af269fb4a5be139efaec2c3488fd831b5a1433f3b74d8cde5d9f5d7"},
		{rising(), 65536, 547, "34ae20d0117f64bffb14a4e283050cf6c95df8f6df169c6ade9432eab43b8dae"},
		{rising(), 524287, 611, "e1932141ad345bf26c8ce84aa2c9636b7fe96c425f9929df039b11a7785ebdc3"},
		{rising(), 699050, 643, "d62ceded1b0881077585f66f7ba2b437df282533f6c28bd4d3901dc194e3fdf7"},
		{rising(), 1048575, 643, "1160691651754d56fc4e5b7271b689ed87b2f3a42fe81262e1ceffda96049e64"},
		{rising(), 1048576, 675, "4c0875b972bbff2974858d2792130c02cf7c6ebc224790275d41aecdc18bb7b9"},
		{each(255), 6, 97, "d1df7e3173937e8e37e42bf20a55582714c9f4afc9f3d06da8319cb61e5aa7e5"},
		{each(255), 7, 97, "1ebbfa7e77352135ee08ead71f6065abe567777a7422d892e8f981db63743a5f"},
		{each(255), 100, 225, "7c9708f51ad60f7a2414a236359402f56ef82a9bb6c138f34a4812cb08f8254b"},
		{each(255), 128, 258, "291450acaca860a296443134363e362dfe4553598183615793ff2a222a3e504c"},
		{each(255), 1000, 322, "8e26379309820e07895ac389259d711c0e3cb3a47482843b108a19c40f31cfea"},
		{each(255), 65536, 547, "60546380ad915e4cf7162a2f8964b38a96124039b8bd9ba67778fe3a04aa58fe"},
		{each(255), 524287, 611, "440af73b1d7c61b074246a256b949a4417070e4bc21843218ed9cd079c1b7e4c"},
		{each(255), 699050, 643, "013e6fe7dbb2852bc2e4a2c6bd4a1114b1b853b9a8457bac27ae9bab1915a80e"},
		{each(255), 1048575, 643, "4aab43910d27cad0ec5209fd1cf37544c510b7866717a7d6d0d49e59083d2ced"},
		{each(255), 1048576, 675, "212fbf353a6d53f3feaa41df9c2da1f27f6a93c741881fb386bd79f344a45005"},
	} {
		b := bytesOf(x.seed, x.n)
		if x.n <= 1000 {
			b = filled(t, x.seed, x.n).Bytes()
		}
		sum := sha256.Sum256(b)
		if len(b) != x.size || !bytes.Equal(sum[:], read(t, x.sum)) {
			t.Errorf("Bytes of %d of %x: %d, of sum %x", x.n, x.seed, len(b), sum)
		}
		readOf(t, b)
	}
}

// A store that was read goes on as the one whose bytes it was read of.
func TestWhatWasReadGoesOn(t *testing.T) {
	for n := range 130 {
		row := rowOf(128+n%64, 50*n)
		s, m := added(t, row[:min(n, len(row))])
		again := readOf(t, s.Bytes())
		same(t, again, m)
		for no := m.next; no < len(row); no++ {
			asTold(t, again, no, api.Hash{}, false)
			if got, want := again.Add(no, row[no]), m.add(no, row[no]); got != want || got != api.OK {
				t.Fatalf("Add(%d) behind %d that were read = %d", no, n, got)
			}
		}
		same(t, again, m)
		for no, secret := range row {
			asTold(t, again, no, secret, true)
		}
	}
}

// Every number of secrets has bytes of its own size, and any other is no store's.
func TestReadOfOtherSizes(t *testing.T) {
	for _, n := range []int{0, 1, 2, 3, 4, 7, 8, 100, 127, 128, 129, 16383, 16384, 65535, 524288, all - 1, all} {
		whole := bytesOf(sumOf(11), n)
		readOf(t, whole)
		for size := range whole {
			unread(t, "cut", whole[:size])
		}
		for _, more := range []int{1, 2, 31, 32, 33, 64, 700} {
			unread(t, "longer", append(slices.Clone(whole), make([]byte, more)...))
		}
		row := binary.AppendUvarint(nil, uint64(n))
		for hashes := range 25 {
			if b := append(slices.Clone(row), bytes.Repeat([]byte{7}, 32*hashes)...); len(b) != len(whole) {
				unread(t, "another number of secrets", b)
			}
		}
		unread(t, "without the number", whole[len(row):])
		unread(t, "a byte ahead", append([]byte{0}, whole...))
	}
	unread(t, "nil", nil)
	unread(t, "no bytes", []byte{})
}

// No store has more than 2^20 secrets, however many are kept.
func TestReadOfOtherNumbers(t *testing.T) {
	full := bytesOf(rising(), all)
	kept := full[len(full)-32*21:]
	for _, n := range []uint64{all + 1, all + 2, all + 4, 2*all - 1, 2 * all, 3 * all, 1<<21 + 1, 1 << 31, 1 << 32, 1<<32 + all, 1 << 62, math.MaxInt64, math.MaxInt64 + 1, math.MaxUint64} {
		row := binary.AppendUvarint(nil, n)
		for hashes := range 70 {
			b := append(slices.Clone(row), slices.Concat(kept, kept, kept, kept)[:32*hashes]...)
			unread(t, "too great a number", b)
			unread(t, "too great a number", append(slices.Clone(row), make([]byte, 32*hashes)...))
		}
	}
	for n := range uint64(all) {
		if n%4099 == 0 && n > 0 {
			unread(t, "secrets of another number", append(binary.AppendUvarint(nil, n), kept[:32*sizeOf(int(n))]...))
		}
	}
}

// sizeOf tells how many secrets are kept of n.
func sizeOf(n int) int {
	size := 0
	for 1<<size <= n {
		size++
	}
	return size
}

// A number has one row alone.
func TestReadOfOtherRows(t *testing.T) {
	for n := range 128 {
		whole := bytesOf(sumOf(12), n)
		unread(t, "a row with a 0 on top", append([]byte{byte(n) + 128, 0}, whole[1:]...))
		unread(t, "a row with noughts on top", append([]byte{byte(n) + 128, 128, 0}, whole[1:]...))
		unread(t, "a row that does not end", append([]byte{byte(n) + 128}, whole[1:]...))
		unread(t, "eight bytes", append(binary.BigEndian.AppendUint64(nil, uint64(n)), whole[1:]...))
	}
}

// reached tells whether bytes are those of a store to which one comes by adding: what was forgotten is made of what is kept, and all is added.
func reached(b []byte) bool {
	n, size := binary.Uvarint(b)
	if size <= 0 || n > all || !bytes.Equal(binary.AppendUvarint(nil, n), b[:size]) || len(b) != size+32*sizeOf(int(n)) {
		return false
	}
	m, done := modelOf(), 0
	for digit := 20; digit >= 0; digit-- {
		if int(n)&(1<<digit) == 0 {
			continue
		}
		done += 1 << digit
		root := api.Hash(b[size+32*digit:])
		for no := done - 1<<digit; no < done; no++ {
			secret, _ := come(all-done, root, all-1-no)
			if m.add(no, secret) != api.OK {
				return false
			}
		}
	}
	return bytes.Equal(m.bytes(), b)
}

// Each bit of what is kept counts: but for a secret of which nothing else that is kept comes, the store is none then.
func TestReadOfSpoiltSecrets(t *testing.T) {
	for n := range 70 {
		s, _ := added(t, rowOf(n, n))
		whole := s.Bytes()
		readOf(t, whole)
		for bit := range 8 * len(whole) {
			b := slices.Clone(whole)
			b[bit/8] ^= 1 << (bit % 8)
			if bit%37 != 0 && bit >= 16 {
				continue
			}
			if reached(b) {
				readOf(t, b)
			} else {
				unread(t, "spoilt", b)
			}
		}
	}
}

// Which secrets hang on which: those of digits that are 0 come of the next digit that is 1, and the others of none.
func TestReadOfSpoiltSecretsOfGreatNumbers(t *testing.T) {
	for _, n := range []int{1, 2, 3, 4, 5, 6, 12, 40, 1000, 1024, 65535, 65536, 349525, 524287, 524288, 699050, all - 2, all - 1, all} {
		whole := bytesOf(sumOf(13), n)
		front := len(whole) - 32*sizeOf(n)
		for height := range sizeOf(n) {
			alone := n&(1<<height) != 0 && (height == 0 || n&(1<<(height-1)) != 0)
			for _, at := range []int{0, 1, 2, 15, 31} {
				b := slices.Clone(whole)
				b[front+32*height+at] ^= 1 << (at % 8)
				if alone {
					readOf(t, b)
				} else {
					unread(t, "spoilt", b)
				}
			}
		}
	}
}

func TestReadOfSecretsInAnotherOrder(t *testing.T) {
	for _, n := range []int{2, 4, 6, 8, 100, 1000, 65536, all} {
		whole := bytesOf(sumOf(14), n)
		front := len(whole) - 32*sizeOf(n)
		for one := range sizeOf(n) {
			for two := range one {
				b := slices.Clone(whole)
				copy(b[front+32*one:][:32], whole[front+32*two:])
				copy(b[front+32*two:][:32], whole[front+32*one:])
				if n < 10 && reached(b) {
					readOf(t, b)
				} else if n&(n-1) == 0 {
					unread(t, "in another order", b)
				}
			}
		}
	}
}

// Any bytes are read just if a store has them.
func TestReadOfAnyBytes(t *testing.T) {
	random := rand.New(rand.NewSource(10))
	for i := range 3000 {
		n := random.Intn(12)
		b := make([]byte, 1+32*random.Intn(6))
		random.Read(b)
		b[0] = byte(n)
		if i%3 == 0 {
			s, _ := added(t, rowOf(n, i))
			b = s.Bytes()
			other, _ := added(t, rowOf(n, i+1))
			if n > 0 {
				copy(b[1+32*random.Intn(sizeOf(n)):][:32], other.Bytes()[1+32*random.Intn(sizeOf(n)):])
			}
		}
		if reached(b) {
			readOf(t, b)
		} else {
			unread(t, "any bytes", b)
		}
	}
	b := make([]byte, 1<<20)
	random.Read(b)
	unread(t, "many bytes", b)
	unread(t, "many noughts", make([]byte, 1<<20))
}
