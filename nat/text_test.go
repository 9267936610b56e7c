package nat

import (
	"math"
	"math/big"
	"strings"
	"testing"
)

// P2.4

func TestText(t *testing.T) {
	for _, x := range []struct {
		a    []uint32
		want string
	}{
		{nil, "0"},
		{[]uint32{}, "0"},
		{[]uint32{0}, "0"},
		{[]uint32{5, 0}, "0"},
		{[]uint32{1, 2, 3, 0}, "0"},
		{[]uint32{7}, "7"},
		{[]uint32{10}, "10"},
		{[]uint32{999_999_999}, "999999999"},
		{[]uint32{1_000_000_000}, "1000000000"},
		{[]uint32{1_000_000_007}, "1000000007"},
		{[]uint32{math.MaxUint32}, "4294967295"},
		{[]uint32{0, 1}, "4294967296"},
		{[]uint32{0xa7640000, 0x0de0b6b3}, "1000000000000000000"},
		{[]uint32{math.MaxUint32, math.MaxUint32}, "18446744073709551615"},
		{[]uint32{0, 0, 1}, "18446744073709551616"},
	} {
		if got := Text(x.a); got != x.want {
			t.Errorf("Text(%x) = %q", x.a, got)
		}
	}
}

func TestTextsOfAllSamples(t *testing.T) {
	for _, a := range append(samples(), ends()...) {
		if got := Text(a); got != number(a).String() {
			t.Errorf("Text(%x) = %q", a, got)
		}
	}
}

// Powers of ten, and what is just below, have groups of 0s and 9s.
func TestTextsAroundPowersOfTen(t *testing.T) {
	for n := 1; n < 200; n++ {
		for _, s := range []string{"1" + strings.Repeat("0", n), strings.Repeat("9", n)} {
			want, _ := new(big.Int).SetString(s, 10)
			if got := Text(natural(want)); got != s {
				t.Errorf("Text of %q = %q", s, got)
			}
			got, ok := Parse(s)
			is(t, got, want, "Parse")
			if !ok {
				t.Errorf("Parse(%q): none", s)
			}
		}
	}
}

func TestParseOfTexts(t *testing.T) {
	for s, want := range map[string]*big.Int{
		"0": big.NewInt(0), "7": big.NewInt(7), "10": big.NewInt(10), "100": big.NewInt(100), "123456789": big.NewInt(123456789),
		"1234567890": big.NewInt(1234567890), "4294967295": power(32, -1), "4294967296": power(32, 0),
		"9223372036854775808": power(63, 0), "18446744073709551616": power(64, 0), "340282366920938463463374607431768211455": power(128, -1),
	} {
		got, ok := Parse(s)
		is(t, got, want, "Parse")
		if !ok {
			t.Errorf("Parse(%q): none", s)
		}
	}
}

func TestParseOfNoTexts(t *testing.T) {
	for _, s := range []string{
		"", "-", "+", "-1", "+1", "-0", "+0", "00", "000", "007", "01", "0000000000", "0123456789",
		" ", " 1", "1 ", "1 2", "\t1", "1\n", "1_000", "1,000", "1.0", "1e3", "0x1", "a", "1a", "a1", "/", ":", "1/", "1:", "1/2",
		"\x00", "1\x00", "\xff", "1\xff", "\u0661", "1\u0661", "\uff11", "\u22121",
		"12345678a", "123456789a", "a123456789", "1234567890 ", "12345678901234567-", "-18446744073709551616", "000000000000000000001",
		strings.Repeat("0", 5000), strings.Repeat("9", 5000) + "x", "x" + strings.Repeat("9", 5000),
	} {
		if n, ok := Parse(s); len(n) != 0 || ok {
			t.Errorf("Parse(%q) = %x, %t", s, n, ok)
		}
	}
}

func TestParseOfAllShortTexts(t *testing.T) {
	texts := []string{""}
	for i := 0; i < len(texts); i++ {
		s := texts[i]
		if len(s) < 4 {
			for _, c := range []string{"-", "+", "0", "1", "9", " ", "/", ":"} {
				texts = append(texts, s+c)
			}
		}
		want, ok := new(big.Int).SetString(s, 10)
		ok = ok && want.Sign() >= 0 && want.String() == s
		if !ok {
			want = new(big.Int)
		}
		got, is := Parse(s)
		if is != ok || number(got).Cmp(want) != 0 || !Right(got) {
			t.Fatalf("Parse(%q) = %x, %t", s, got, is)
		}
	}
}

// P2.5

func TestTextsAreReadAgain(t *testing.T) {
	for _, a := range append(samples(), ends()...) {
		got, ok := Parse(Text(a))
		is(t, got, number(a), "what is read again", a)
		if !ok {
			t.Errorf("%q is not read", Text(a))
		}
	}
	long := strings.Repeat("9876543210", 500)
	n, ok := Parse(long)
	if got := Text(n); got != long || !ok {
		t.Errorf("%q, %t", got, ok)
	}
}
