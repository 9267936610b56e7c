package seal

import (
	"bytes"
	"crypto/sha256"
	"math"
	"slices"
	"testing"

	"corsned/api"
)

// closed holds that nothing is opened.
func closed(t *testing.T, what string, key api.Hash, sealed []byte) {
	t.Helper()
	if plain, ok := Open(key, sealed); ok || len(plain) != 0 {
		t.Errorf("%s (%d bytes) is opened: %.40x, %v", what, len(sealed), plain, ok)
	}
}

// opened holds that the seal of bytes is opened as they were.
func opened(t *testing.T, what string, key api.Hash, sealed, want []byte) {
	t.Helper()
	if plain, ok := Open(key, sealed); !ok || !bytes.Equal(plain, want) {
		t.Errorf("%s (%d bytes) is opened as %.40x, %v, not %.40x", what, len(sealed), plain, ok, want)
	}
}

// P9.1

func TestStreamOfExamples(t *testing.T) {
	for _, x := range []struct {
		key        api.Hash
		front, end string
		sum        string
	}{
		{
			api.Hash{},
			"0a92a7c6dec8003780e061652073e496f870423b8aec446c9662b649602dcd32813d1a18b1280e49f43d7d23dfaa6431081a79840f2414d9e95d625469d581a95758f8566757",
			"8b4e4acfc5301b2c", "b3efa09a08012be6c2e7be550a06c921e39d4ec22cca8b487a88b6191bbae828",
		},
		{
			rising(),
			"f471c873cdaa47b47137837b1e2f91969b129ebfdd8e42e557a198242ff6a903618321d487df65aafced011471933883a6576c74a2bcf4e152b55855c98b4d5ccde915da5c33",
			"7b3a02fc8f6128f1", "6aa4c90da320070c325d1ea811271f608c6b80385bfb72b1fc8d6a677c35c4fd",
		},
		{
			full(),
			"5a68893317e0967159eb97ede6984e02acae7f2878b7efcd3500742681b2be77a780456d242c991188af736cafb6e71d1bc294150d550ebbbd08be3754efac735fc987714c32",
			"e9613ecf1450c00d", "8d687ec57b8e3a46183fc8cd0d7ad3ac88bb7a91ea134d74a4dccc797fd598af",
		},
	} {
		front := read(t, x.front)
		for n := range len(front) + 1 {
			if got := Stream(x.key, n); !bytes.Equal(got, front[:n]) {
				t.Errorf("Stream(%x, %d) = %x", x.key, n, got)
			}
		}
		got := Stream(x.key, 65536)
		sum := sha256.Sum256(got)
		if len(got) != 65536 || !bytes.Equal(got[65528:], read(t, x.end)) || !bytes.Equal(sum[:], read(t, x.sum)) {
			t.Errorf("Stream(%x, 65536) = %d bytes, of sum %x", x.key, len(got), sum)
		}
	}
}

func TestStreamOfAllSizes(t *testing.T) {
	for _, key := range keys() {
		whole := streamed(key, limit)
		for _, n := range sizes() {
			if got := Stream(key, n); !bytes.Equal(got, whole[:n]) {
				t.Errorf("Stream(%x, %d) is another one", key, n)
			}
		}
	}
	whole := streamed(keyOf(9), 3000)
	for n := range 3000 {
		if got := Stream(keyOf(9), n); !bytes.Equal(got, whole[:n]) {
			t.Errorf("Stream of %d is another one", n)
		}
	}
}

func TestStreamOfOthers(t *testing.T) {
	for _, n := range []int{-1, -2, -32, -limit, -limit - 1, math.MinInt, math.MinInt + 1, math.MinInt32, limit + 1, limit + 2, limit + 32, 2 * limit, 1 << 31, 1 << 32, 1<<32 + 5, math.MaxInt - 1, math.MaxInt} {
		for _, key := range keys() {
			if got := Stream(key, n); len(got) != 0 {
				t.Errorf("Stream(%x, %d) has %d bytes", key, n, len(got))
			}
		}
	}
}

// Each bit of a key counts.
func TestStreamsOfKeysThatAreNear(t *testing.T) {
	key := keyOf(3)
	seen := map[string]bool{string(Stream(key, 64)): true}
	for bit := range 256 {
		near := key
		near[bit/8] ^= 1 << (bit % 8)
		got := Stream(near, 64)
		if !bytes.Equal(got, streamed(near, 64)) || seen[string(got)] {
			t.Errorf("Stream of the key with bit %d turned = %x", bit, got)
		}
		seen[string(got)] = true
	}
}

// P9.2

func TestSealOfExamples(t *testing.T) {
	fox := "The quick brown fox jumps over the lazy dog"
	for _, x := range []struct {
		key         api.Hash
		plain, want string
	}{
		{api.Hash{}, "", "f3f0674b47277c69"},
		{api.Hash{}, "\x00", "0a0fc752f28161b9bb"},
		{api.Hash{}, "abc", "6bf0c45bbe3fb6e96fdb93"},
		{api.Hash{}, fox, "5efac2e6afbd6954ebc003174f048ab69e1f3a1be099291ce542d93f055fed46e9583a74d052776990521abd8a5c52a54fcb5c"},
		{rising(), "", "89bcfecadb8a4e7d"},
		{rising(), "\x00", "f416a38b9e736d27b5"},
		{rising(), "abc", "9513ab3d19c69b987206bc"},
		{rising(), fox, "a019ad53bcdf2ed71a17e1097158ffb6fd7de69fb7fb2f952481f7524a84897709e601b8e6a51c8a988266540040957cc7b1cb"},
		{full(), "", "c6ec0a2162f1c69b"},
		{full(), "\x00", "5a2d64c085bd12e78e"},
		{full(), "abc", "3b0aea032a8b850faa4168"},
		{full(), fox, "0e00ec136695ff1232cbf59f89ef2022cac1070812c282bd46201b50e4c09e03cfe565014556e031ecc014c894b6a5f54a5f47"},
	} {
		want := read(t, x.want)
		if got := Seal(x.key, []byte(x.plain)); !bytes.Equal(got, want) {
			t.Errorf("Seal(%x, %q) = %x", x.key, x.plain, got)
		}
		opened(t, "an example", x.key, want, []byte(x.plain))
	}
}

// The most bytes that may be sealed, each of which is 7 times its place.
func TestSealOfTheMost(t *testing.T) {
	plain := make([]byte, 65536)
	for i := range plain {
		plain[i] = byte(7 * i)
	}
	for _, x := range []struct {
		key      api.Hash
		tag, sum string
	}{
		{api.Hash{}, "0f4f7e55551fc782", "0b9a1bb74d6a98caa2923fd567bcf3ca4f883eb0e632410fd1a9fa044474e9a4"},
		{rising(), "806860fa2779c287", "cf3533a41807a90a94e45da48a01d0474c3b5351b68392a8095a12be1405cd0f"},
		{full(), "dcd1abdc72e16595", "621a1bcdab5c22c8c0c7632672163c386237632409781d92e923fe9798355ccb"},
	} {
		got := Seal(x.key, plain)
		sum := sha256.Sum256(got)
		if len(got) != 65544 || !bytes.Equal(got[65536:], read(t, x.tag)) || !bytes.Equal(sum[:], read(t, x.sum)) {
			t.Errorf("Seal(%x) of the most bytes: %d, of sum %x", x.key, len(got), sum)
		}
		opened(t, "the most bytes", x.key, got, plain)
	}
}

func TestSealOfNoBytes(t *testing.T) {
	for _, key := range keys() {
		for _, plain := range [][]byte{nil, {}, []byte("abc")[:0], []byte("abc")[3:]} {
			if got := Seal(key, plain); len(got) != 8 || !bytes.Equal(got, marked(key, nil)) {
				t.Errorf("Seal(%x) of none = %x", key, got)
			}
		}
	}
}

func TestSealOfAllSizes(t *testing.T) {
	for _, key := range keys() {
		for _, size := range sizes() {
			for _, plain := range [][]byte{some(size), make([]byte, size), bytes.Repeat([]byte{0xff}, size)} {
				if got := Seal(key, plain); !bytes.Equal(got, sealedOf(key, plain)) {
					t.Errorf("Seal(%x) of %d bytes is another one", key, size)
				}
			}
		}
	}
}

func TestSealOfLong(t *testing.T) {
	for _, size := range []int{limit + 1, limit + 2, limit + 8, limit + 9, limit + 32, 2 * limit, 1 << 20} {
		for _, key := range keys() {
			if got := Seal(key, make([]byte, size)); len(got) != 0 {
				t.Errorf("Seal(%x) of %d bytes has %d", key, size, len(got))
			}
		}
	}
}

// P9.3

func TestOpenOfAllSizes(t *testing.T) {
	for _, key := range keys() {
		for _, size := range sizes() {
			plain := some(size)
			opened(t, "a seal", key, sealedOf(key, plain), plain)
		}
	}
}

// Too few bytes for a tag are the seal of nothing, not of long bytes either.
func TestOpenOfFew(t *testing.T) {
	for _, key := range keys() {
		closed(t, "nil", key, nil)
		whole := marked(key, nil)
		for size := range 8 {
			closed(t, "a piece of a tag", key, whole[:size])
			closed(t, "the end of a tag", key, whole[8-size:])
			closed(t, "noughts", key, make([]byte, size))
		}
		opened(t, "a whole tag", key, whole, nil)
		closed(t, "eight noughts", key, make([]byte, 8))
	}
}

// Of long bytes there is no seal, though their tag be right.
func TestOpenOfLong(t *testing.T) {
	for _, key := range keys()[:3] {
		for _, size := range []int{limit + 1, limit + 2, limit + 8, limit + 9, limit + 32, 2 * limit, 1 << 20} {
			plain := some(size)
			closed(t, "a seal of long bytes", key, sealedOf(key, plain))
			closed(t, "long bytes that are plain", key, marked(key, plain))
			closed(t, "long bytes hidden as far as any are", key, marked(key, append(hiddenOf(key, plain[:limit]), plain[limit:]...)))
		}
	}
}

// Each bit of what is sealed counts.
func TestOpenOfSpoiled(t *testing.T) {
	for _, key := range keys() {
		for _, size := range []int{0, 1, 8, 31, 32, 33, 100} {
			whole := sealedOf(key, some(size))
			for bit := range 8 * len(whole) {
				spoiled := slices.Clone(whole)
				spoiled[bit/8] ^= 1 << (bit % 8)
				closed(t, "a seal with a bit turned", key, spoiled)
			}
		}
	}
	whole := sealedOf(rising(), some(limit))
	for _, place := range []int{0, 1, 31, 32, 255, 256, 4096, limit / 2, limit - 1, limit, limit + 1, limit + 7} {
		spoiled := slices.Clone(whole)
		spoiled[place] ^= 1
		closed(t, "the greatest seal with a bit turned", rising(), spoiled)
	}
}

// What was cut, or lengthened, at its beginning, its end or ahead of its tag, or turned about, is no seal.
func TestOpenOfOtherRows(t *testing.T) {
	key := keyOf(4)
	for _, size := range []int{1, 2, 7, 8, 9, 16, 32, 40, 64, 100} {
		whole := sealedOf(key, some(size))
		for cut := 1; cut <= len(whole); cut++ {
			closed(t, "a seal without its end", key, whole[:len(whole)-cut])
			closed(t, "a seal without its beginning", key, whole[cut:])
		}
		for at := range len(whole) + 1 {
			for _, more := range []byte{0, 0x80, 0xff} {
				closed(t, "a longer seal", key, slices.Insert(slices.Clone(whole), at, more))
			}
		}
		closed(t, "a tag ahead", key, append(slices.Clone(whole[size:]), whole[:size]...))
		closed(t, "two seals", key, append(slices.Clone(whole), whole...))
		turned := slices.Clone(whole)
		slices.Reverse(turned[size:])
		closed(t, "a tag that is turned about", key, turned)
		closed(t, "plain bytes with the seal's tag", key, append(some(size), whole[size:]...))
		closed(t, "plain bytes with the tag of them unkeyed", key, marked(api.Hash{}, some(size)))
	}
}

// The tag is that of what is hidden, by the name of seals: no other bytes of that sum, and of no other sum.
func TestOpenOfOtherTags(t *testing.T) {
	key := keyOf(5)
	for _, size := range []int{0, 1, 32, 33, 100} {
		plain := some(size)
		hidden := hiddenOf(key, plain)
		right := summed("seal", key[:], hidden)
		opened(t, "a seal", key, append(slices.Clone(hidden), right[:8]...), plain)
		for _, tag := range [][]byte{right[8:16], right[24:], right[1:9], right[:7], right[:9], right[:16], right[:], right[:0]} {
			closed(t, "other bytes of the sum", key, append(slices.Clone(hidden), tag...))
		}
		for _, sum := range [][32]byte{
			summed("stream", key[:], hidden), summed("", key[:], hidden), summed("Seal", key[:], hidden), summed("seal", hidden, key[:]),
			summed("seal", append(key[:], hidden...)), summed("seal", hidden), summed("seal", key[:]), summed("seal", key[:], hidden, nil),
			sha256.Sum256(append(key[:], hidden...)), sha256.Sum256(hidden),
		} {
			closed(t, "another sum", key, append(slices.Clone(hidden), sum[:8]...))
		}
		if size > 0 {
			sum := summed("seal", key[:], plain)
			closed(t, "the tag of the plain bytes", key, append(slices.Clone(hidden), sum[:8]...))
		}
	}
}

func TestOpenByOtherKeys(t *testing.T) {
	key := keyOf(6)
	for _, size := range []int{0, 1, 32, 100, limit} {
		whole := sealedOf(key, some(size))
		for _, other := range keys() {
			closed(t, "another key's seal", other, whole)
		}
	}
	whole := sealedOf(key, some(50))
	for bit := range 256 {
		near := key
		near[bit/8] ^= 1 << (bit % 8)
		closed(t, "a near key's seal", near, whole)
	}
}
