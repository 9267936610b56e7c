package hash

import (
	"encoding/hex"
	"strings"
	"testing"

	"corsned/api"
)

// row64 are 64 digits, each of the 16 among them.
const row64 = "0123456789abcdeffedcba98765432100f1e2d3c4b5a69788796a5b4c3d2e1f0"

// sums are sums of all kinds: with each byte in each place, and some of no rule.
func sums() []api.Hash {
	l := []api.Hash{{}, {0: 128}, {31: 1}, {0: 1}, {0: 15}, {0: 16}, {31: 255}}
	for c := range 256 {
		full, single := api.Hash{}, api.Hash{}
		for i := range full {
			full[i] = byte(c + 37*i)
		}
		single[c%32] = byte(c)
		l = append(l, full, single, Sum([]byte{byte(c)}))
	}
	return l
}

// unread holds that a text is no sum's, and that the sum that is told is a zero one.
func unread(t *testing.T, s string) {
	t.Helper()
	if h, ok := Read(s); h != (api.Hash{}) || ok {
		t.Errorf("Read(%.80q) = %x, %t", s, h, ok)
	}
}

// P4.3

func TestHexOfExamples(t *testing.T) {
	zeros := strings.Repeat("0", 64)
	for _, x := range []struct {
		h    api.Hash
		want string
	}{
		{api.Hash{}, zeros},
		{api.Hash{0: 1}, "01" + zeros[2:]},
		{api.Hash{0: 16}, "10" + zeros[2:]},
		{api.Hash{31: 1}, zeros[1:] + "1"},
		{api.Hash{31: 0xf0}, zeros[2:] + "f0"},
		{api.Hash{0: 0xab, 1: 0xcd, 2: 0xef, 3: 0x98}, "abcdef98" + zeros[8:]},
		{Sum(nil), "e3b0c44298fc1c149afbf4c8996fb92427ae41e4649b934ca495991b7852b855"},
		{Sum([]byte("abc")), "ba7816bf8f01cfea414140de5dae2223b00361a396177a9cb410ff61f20015ad"},
	} {
		if got := Hex(x.h); got != x.want {
			t.Errorf("Hex(%x) = %q", x.h[:], got)
		}
	}
}

func TestHexOfAllBytes(t *testing.T) {
	for _, h := range sums() {
		if got := Hex(h); got != hex.EncodeToString(h[:]) {
			t.Errorf("Hex(%x) = %q", h[:], got)
		}
	}
}

func TestReadOfTexts(t *testing.T) {
	for _, x := range []struct {
		s    string
		want api.Hash
	}{
		{strings.Repeat("0", 64), api.Hash{}},
		{strings.Repeat("0", 63) + "1", api.Hash{31: 1}},
		{"f" + strings.Repeat("0", 63), api.Hash{0: 0xf0}},
		{"09af" + strings.Repeat("0", 60), api.Hash{0: 0x09, 1: 0xaf}},
		{"e3b0c44298fc1c149afbf4c8996fb92427ae41e4649b934ca495991b7852b855", Sum(nil)},
		{row64, read(t, row64)},
	} {
		if got, ok := Read(x.s); got != x.want || !ok {
			t.Errorf("Read(%q) = %x, %t", x.s, got[:], ok)
		}
	}
}

func TestReadOfTextsOfOtherSizes(t *testing.T) {
	if _, ok := Read(row64); !ok {
		t.Fatal("the row is not read")
	}
	for size := range 300 {
		for _, s := range []string{strings.Repeat("0", size), strings.Repeat("a", size), strings.Repeat(row64, 5)[:size]} {
			if size != 64 {
				unread(t, s)
			}
		}
	}
	for _, s := range []string{"", " " + row64, row64 + " ", row64 + "\n", row64 + "\x00", row64 + row64, "0x" + row64, "0x" + row64[2:], row64[1:] + "\n", "\u00e9" + row64[1:]} {
		unread(t, s)
	}
}

// Each byte but 16 is wrong, in each place.
func TestReadOfWrongDigits(t *testing.T) {
	for at := range 64 {
		for c := range 256 {
			s := row64[:at] + string([]byte{byte(c)}) + row64[at+1:]
			if strings.IndexByte("0123456789abcdef", byte(c)) < 0 {
				unread(t, s)
				continue
			}
			if h, ok := Read(s); h != read(t, s) || !ok {
				t.Errorf("Read(%q) = %x, %t", s, h[:], ok)
			}
		}
	}
}

func TestReadOfNoTexts(t *testing.T) {
	for _, c := range []string{"/", ":", "`", "g", "@", "G", "A", "F", "\x00", " ", "-", "+", "\x7f", "\x80", "\xb0", "\xe1", "\xff"} {
		unread(t, strings.Repeat(c, 64))
		unread(t, c+row64[1:])
		unread(t, row64[:63]+c)
		unread(t, row64[:31]+c+c+row64[33:])
	}
	unread(t, strings.ToUpper(row64))
	unread(t, strings.ToUpper("e3b0c44298fc1c149afbf4c8996fb92427ae41e4649b934ca495991b7852b855"))
	for _, s := range []string{"\u0661", "\uff11", "\u00e9", "\U0001f600", "\u0430", "\ufffd"} {
		unread(t, s+row64[len(s):])
		unread(t, row64[len(s):]+s)
		unread(t, s+row64[1:])
		unread(t, strings.Repeat(s, 64/len(s)))
		unread(t, strings.Repeat(s, 64))
	}
}

// P4.4

func TestTextsAreReadAgain(t *testing.T) {
	for _, h := range sums() {
		if got, ok := Read(Hex(h)); got != h || !ok {
			t.Errorf("Read(Hex(%x)) = %x, %t", h[:], got[:], ok)
		}
	}
	for at := range 64 {
		for _, c := range "0123456789abcdef" {
			s := row64[:at] + string(c) + row64[at+1:]
			h, ok := Read(s)
			if got := Hex(h); got != s || !ok {
				t.Errorf("%q is read as %q, %t", s, got, ok)
			}
		}
	}
}

// No two sums have one text.
func TestTextsOfUnlikeSumsAreUnlike(t *testing.T) {
	seen := map[string]api.Hash{}
	for _, h := range sums() {
		s := Hex(h)
		if other, ok := seen[s]; ok && other != h {
			t.Errorf("%x and %x have one text", h[:], other[:])
		}
		seen[s] = h
	}
}
