package hash

import (
	"crypto/sha256"
	"encoding/binary"
	"encoding/hex"
	"fmt"
	"math/rand"
	"slices"
	"strings"
	"testing"

	"corsned/api"
)

// read tells the sum of 64 digits.
func read(t *testing.T, s string) api.Hash {
	t.Helper()
	b, err := hex.DecodeString(s)
	if err != nil || len(b) != 32 {
		t.Fatalf("%q is no sum", s)
	}
	return api.Hash(b)
}

// some tells so many bytes of no rule, always the same ones.
func some(size int) []byte {
	b := make([]byte, size)
	rand.New(rand.NewSource(int64(size))).Read(b)
	return b
}

// laid tells what Tag's promise says is summed, made without the package.
func laid(name string, parts ...[]byte) []byte {
	b := binary.BigEndian.AppendUint64(nil, uint64(len(name)))
	b = append(b, name...)
	for _, part := range parts {
		b = binary.BigEndian.AppendUint64(b, uint64(len(part)))
		b = append(b, part...)
	}
	return b
}

// tagged holds Tag of a name and parts against the sum of what is laid.
func tagged(t *testing.T, name string, parts ...[]byte) {
	t.Helper()
	if got, want := Tag(name, parts...), api.Hash(sha256.Sum256(laid(name, parts...))); got != want {
		t.Errorf("Tag(%.40q, %d parts) = %x, not %x", name, len(parts), got, want)
	}
}

// sizes are numbers of bytes at which something ends: a block, the room for the size in it, a byte of the size.
func sizes() []int {
	return []int{0, 1, 2, 7, 8, 9, 31, 32, 47, 48, 49, 55, 56, 57, 63, 64, 65, 111, 112, 119, 120, 121, 127, 128, 129, 255, 256, 257, 1000, 4096, 65535, 65536, 65537}
}

// P4.1

// The examples of FIPS 180-4, and those that were published with it.
func TestSumOfPublishedExamples(t *testing.T) {
	for _, x := range []struct{ bytes, want string }{
		{"", "e3b0c44298fc1c149afbf4c8996fb92427ae41e4649b934ca495991b7852b855"},
		{"abc", "ba7816bf8f01cfea414140de5dae2223b00361a396177a9cb410ff61f20015ad"},
		{"abcdbcdecdefdefgefghfghighijhijkijkljklmklmnlmnomnopnopq", "248d6a61d20638b8e5c026930c3e6039a33ce45964ff2167f6ecedd419db06c1"},
		{"abcdefghbcdefghicdefghijdefghijkefghijklfghijklmghijklmnhijklmnoijklmnopjklmnopqklmnopqrlmnopqrsmnopqrstnopqrstu", "cf5b16a778af8380036ce59e7b0492370b249b11e8f07a51afac45037afee9d1"},
		{strings.Repeat("a", 1_000_000), "cdc76e5c9914fb9281a1c7e284d73e67f1809a48a497200e046d39ccc7112cd0"},
		{"\xbd", "68325720aabd7c82f30f554b313d0570c95accbb7dc4b5aae11204c08ffe732b"},
		{"\xc9\x8c\x8e\x55", "7abc22c0ae5af26ce93dbb94433a0e0b2e119d014f8e7f65bd56c61ccccd9504"},
		{strings.Repeat("\x00", 55), "02779466cdec163811d078815c633f21901413081449002f24aa3e80f0b88ef7"},
		{strings.Repeat("\x00", 56), "d4817aa5497628e7c77e6b606107042bbba3130888c5f47a375e6179be789fbb"},
		{strings.Repeat("\x00", 57), "65a16cb7861335d5ace3c60718b5052e44660726da4cd13bb745381b235a1785"},
		{strings.Repeat("\x00", 64), "f5a5fd42d16a20302798ef6ed309979b43003d2320d9f0e8ea9831a92759fb4b"},
		{strings.Repeat("\x00", 1000), "541b3e9daa09b20bf85fa273e5cbd3e80185aa4ec298e765db87742b70138a53"},
		{strings.Repeat("A", 1000), "c2e686823489ced2017f6059b8b239318b6364f6dcd835d0a519105a1eadd6e4"},
		{strings.Repeat("U", 1005), "f4d62ddec0f3dd90ea1380fa16a5ff8dc4c54b21740650f24afc4120903552b0"},
	} {
		if got := Sum([]byte(x.bytes)); got != read(t, x.want) {
			t.Errorf("Sum of %d bytes, %.10q.. = %x", len(x.bytes), x.bytes, got)
		}
	}
}

func TestSumOfNoBytes(t *testing.T) {
	want := read(t, "e3b0c44298fc1c149afbf4c8996fb92427ae41e4649b934ca495991b7852b855")
	for _, b := range [][]byte{nil, {}, []byte("abc")[:0], []byte("abc")[3:]} {
		if got := Sum(b); got != want {
			t.Errorf("Sum of none = %x", got)
		}
	}
}

func TestSumsOfAllSizes(t *testing.T) {
	all := sizes()
	for size := range 700 {
		all = append(all, size)
	}
	for _, size := range all {
		for _, b := range [][]byte{some(size), make([]byte, size), []byte(strings.Repeat("\xff", size)), []byte(strings.Repeat("\x80", size))} {
			if got, want := Sum(b), api.Hash(sha256.Sum256(b)); got != want {
				t.Errorf("Sum of %d bytes = %x, not %x", size, got, want)
			}
		}
	}
}

// Each bit counts, wherever it stands.
func TestSumsOfSingleBits(t *testing.T) {
	seen := map[api.Hash]bool{}
	for bit := range 8 * 130 {
		b := make([]byte, 130)
		b[bit/8] = 1 << (bit % 8)
		got := Sum(b)
		if got != api.Hash(sha256.Sum256(b)) || seen[got] {
			t.Errorf("Sum of bit %d = %x", bit, got)
		}
		seen[got] = true
	}
}

// P4.2

func TestTagOfExamples(t *testing.T) {
	for _, x := range []struct {
		name  string
		parts []string
		bytes string
	}{
		{"", nil, "\x00\x00\x00\x00\x00\x00\x00\x00"},
		{"", []string{""}, "\x00\x00\x00\x00\x00\x00\x00\x00\x00\x00\x00\x00\x00\x00\x00\x00"},
		{"a", nil, "\x00\x00\x00\x00\x00\x00\x00\x01a"},
		{"", []string{"a"}, "\x00\x00\x00\x00\x00\x00\x00\x00\x00\x00\x00\x00\x00\x00\x00\x01a"},
		{"seal", []string{"k", "", "xyz"}, "\x00\x00\x00\x00\x00\x00\x00\x04seal\x00\x00\x00\x00\x00\x00\x00\x01k\x00\x00\x00\x00\x00\x00\x00\x00\x00\x00\x00\x00\x00\x00\x00\x03xyz"},
		{"\u00e9\x00", []string{"\xff"}, "\x00\x00\x00\x00\x00\x00\x00\x03\xc3\xa9\x00\x00\x00\x00\x00\x00\x00\x00\x01\xff"},
	} {
		parts := [][]byte{}
		for _, part := range x.parts {
			parts = append(parts, []byte(part))
		}
		if got := Tag(x.name, parts...); got != sha256.Sum256([]byte(x.bytes)) || got != Sum([]byte(x.bytes)) {
			t.Errorf("Tag(%q, %q) = %x", x.name, x.parts, got)
		}
	}
	if got := Tag(""); got != read(t, "af5570f5a1810b7af78caf4bc70a660f0df51e42baf91d4de5b2328de0e83dfc") {
		t.Errorf("Tag of nothing = %x", got)
	}
}

func TestTagOfAllSizes(t *testing.T) {
	for _, a := range sizes() {
		tagged(t, string(some(a)))
		for _, b := range sizes() {
			tagged(t, string(some(a)), some(b))
			tagged(t, "a name", some(a), some(b))
			tagged(t, "a name", some(a), nil, some(b), []byte{})
		}
	}
}

func TestTagOfManyParts(t *testing.T) {
	parts := [][]byte{}
	for i := range 400 {
		tagged(t, "many", parts...)
		parts = append(parts, some(i%67))
	}
	same := some(100)
	tagged(t, "the same part", same, same, same[:50], same[50:], same)
}

func TestTagOfNilAndEmptyParts(t *testing.T) {
	if Tag("n", nil) != Tag("n", []byte{}) || Tag("n", nil, []byte{}) != Tag("n", []byte{}, nil) {
		t.Error("nil and empty parts are not alike")
	}
	if Tag("n", [][]byte(nil)...) != Tag("n") || Tag("n", [][]byte{}...) != Tag("n") {
		t.Error("nil and empty lists of parts are not alike")
	}
	if Tag("n") == Tag("n", nil) || Tag("n", nil) == Tag("n", nil, nil) || Tag("n", nil, []byte("x")) == Tag("n", []byte("x"), nil) {
		t.Error("empty parts don't count")
	}
}

// A name is counted by its bytes, whatever they are.
func TestTagOfNamesOfAllBytes(t *testing.T) {
	for c := range 256 {
		tagged(t, string([]byte{byte(c)}), []byte{byte(c)})
	}
	for _, name := range []string{"\u00e9", "\u20ac", "\U0001f600", "\xc3", "a\xff\xfeb", "\ufffd", "a\x00b", strings.Repeat("\u20ac", 100)} {
		tagged(t, name, []byte(name))
		tagged(t, name)
	}
}

// P4.4

// All ways to cut the same bytes into a name and parts have sums of their own.
func TestRowsThatAreCutOtherwiseHaveOtherSums(t *testing.T) {
	if Tag("n", []byte("a"), []byte("bc")) == Tag("n", []byte("ab"), []byte("c")) || Tag("a", []byte("bc")) == Tag("ab", []byte("c")) {
		t.Error("`a` and `bc` are as `ab` and `c`")
	}
	for _, all := range []string{"abcdefgh", strings.Repeat("\x00", 9), "\x00\x00\x00\x00\x00\x00\x00\x01a\x00"} {
		seen := map[api.Hash]string{}
		for cuts := range 1 << len(all) {
			pieces := [][]byte{{}}
			for i := range len(all) {
				last := len(pieces) - 1
				pieces[last] = append(pieces[last], all[i])
				if cuts>>i&1 == 1 {
					pieces = append(pieces, []byte{})
				}
			}
			got, cut := Tag(string(pieces[0]), pieces[1:]...), fmt.Sprintf("%q", pieces)
			if other, ok := seen[got]; ok {
				t.Errorf("%s and %s have one sum", cut, other)
			}
			seen[got] = cut
			tagged(t, string(pieces[0]), pieces[1:]...)
		}
	}
}

// What is laid of one row of parts is no other's, even where parts look like counts.
func TestPartsThatLookLikeCounts(t *testing.T) {
	zero, one := make([]byte, 8), []byte{0, 0, 0, 0, 0, 0, 0, 1}
	rows := [][][]byte{
		{}, {nil}, {nil, nil}, {zero}, {nil, zero}, {zero, nil}, {zero, zero}, {append(slices.Clone(zero), zero...)}, {append(slices.Clone(zero), one...)},
		{one}, {one, {7}}, {append(slices.Clone(one), 7)}, {{7}, one}, {{7}}, {{7}, nil}, {nil, {7}},
	}
	seen := map[api.Hash]int{}
	for i, row := range rows {
		got := Tag("", row...)
		if other, ok := seen[got]; ok {
			t.Errorf("%x and %x have one sum", row, rows[other])
		}
		seen[got] = i
		tagged(t, "", row...)
	}
}

// P4.3

func TestNum(t *testing.T) {
	for _, x := range []struct {
		h    api.Hash
		want uint64
	}{
		{api.Hash{}, 0},
		{api.Hash{7: 1}, 1},
		{api.Hash{6: 1}, 256},
		{api.Hash{0: 1}, 1 << 56},
		{api.Hash{0: 127, 7: 5}, 127<<56 + 5},
		{api.Hash{0: 128}, 1 << 63},
		{api.Hash{0: 200, 1: 1}, 200<<56 + 1<<48},
		{api.Hash{0: 255}, 255 << 56},
		{api.Hash{1, 2, 3, 4, 5, 6, 7, 8, 9, 10}, 0x0102030405060708},
		{api.Hash{255, 254, 253, 252, 251, 250, 249, 248, 247}, 0xfffefdfcfbfaf9f8},
		{api.Hash{255, 255, 255, 255, 255, 255, 255, 255}, 1<<64 - 1},
		{api.Hash{8: 255, 31: 255}, 0},
		{read(t, "e3b0c44298fc1c149afbf4c8996fb92427ae41e4649b934ca495991b7852b855"), 0xe3b0c44298fc1c14},
	} {
		if got := Num(x.h); got != x.want {
			t.Errorf("Num(%x) = %x", x.h, got)
		}
	}
	for i := range 32 {
		for bit := range 8 {
			want := uint64(0)
			if i < 8 {
				want = 1 << (56 - 8*i + bit)
			}
			h := api.Hash{}
			h[i] = 1 << bit
			if got := Num(h); got != want {
				t.Errorf("Num of bit %d of byte %d = %x", bit, i, got)
			}
		}
	}
	for size := range 300 {
		h := api.Hash(sha256.Sum256(some(size)))
		if got := Num(h); got != binary.BigEndian.Uint64(h[:]) {
			t.Errorf("Num(%x) = %x", h, got)
		}
	}
}
