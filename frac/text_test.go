package frac

import (
	"math"
	"math/big"
	"strings"
	"testing"

	"corsned/api"
)

// P3.4

func TestTextOfExamples(t *testing.T) {
	for _, x := range []struct {
		a    api.Frac
		want string
	}{
		{of(0, 1), "0"},
		{of(1, 1), "1"},
		{of(3, 1), "3"},
		{of(3, 2), "3/2"},
		{of(1, 2), "1/2"},
		{of(1, 10), "1/10"},
		{of(10, 1), "10"},
		{of(1000000000, 7), "1000000000/7"},
		{api.Frac{Num: []uint32{0, 0, 1}, Den: []uint32{math.MaxUint32, math.MaxUint32}}, "18446744073709551616/18446744073709551615"},
		{api.Frac{Num: []uint32{1}, Den: []uint32{1, 1}}, "1/4294967297"},
		{api.Frac{Num: []uint32{1}, Den: []uint32{0, 1}}, "1/4294967296"},
		{api.Frac{}, "0"},
		{api.Frac{Num: []uint32{7}}, "0"},
		{api.Frac{Num: []uint32{7}, Den: []uint32{0}}, "0"},
		{api.Frac{Num: []uint32{7, 0}, Den: []uint32{1}}, "0"},
		{api.Frac{Num: []uint32{7}, Den: []uint32{1, 0}}, "0"},
		{api.Frac{Num: []uint32{2}, Den: []uint32{4}}, "0"},
		{api.Frac{Den: []uint32{2}}, "0"},
	} {
		if got := Text(x.a); got != x.want {
			t.Errorf("Text(%x) = %q", x.a, got)
		}
	}
}

func TestTextsOfAllSamples(t *testing.T) {
	for _, a := range samples() {
		if got := Text(a); got != rat(a).RatString() {
			t.Errorf("Text(%x) = %q", a, got)
		}
	}
}

func TestParseOfTexts(t *testing.T) {
	wide := new(big.Int).Lsh(big.NewInt(1), 64)
	for s, want := range map[string]*big.Rat{
		"0": big.NewRat(0, 1), "1": big.NewRat(1, 1), "3": big.NewRat(3, 1), "10": big.NewRat(10, 1),
		"3/2": big.NewRat(3, 2), "1/2": big.NewRat(1, 2), "2/3": big.NewRat(2, 3), "1/10": big.NewRat(1, 10), "10/11": big.NewRat(10, 11),
		"18446744073709551616":                      new(big.Rat).SetInt(wide),
		"1/18446744073709551616":                    new(big.Rat).SetFrac(big.NewInt(1), wide),
		"18446744073709551616/18446744073709551615": new(big.Rat).SetFrac(wide, new(big.Int).Sub(wide, big.NewInt(1))),
	} {
		got, ok := Parse(s)
		perhaps(t, got, ok, want, "Parse", s)
	}
}

func TestParseOfNoTexts(t *testing.T) {
	for _, s := range []string{
		"", "/", "//", "/2", "1/", "1//2", "/1/2", "1/2/", "1/2/3", "3/2/1", "1/1/1", "0/", "/0",
		"2/4", "4/2", "6/4", "2/2", "3/1", "1/1", "0/1", "0/2", "1/0", "0/0", "10/1", "18446744073709551616/4294967296",
		"01", "00", "01/2", "1/02", "00/1", "3/01", "1/00", "-1/2", "1/-2", "-1/-2", "-1", "-0", "+1", "+1/2", "1/+2",
		" ", " 1/2", "1/2 ", "1 /2", "1/ 2", "1 1/2", "\t1", "1/2\n", "1.5", "1,5", "0.5", "1e3", "0x1", "1_0/3", "a", "a/b", "1/b", "a/2", "3:2", "3\\2", "3|2",
		"\x00", "1/2\x00", "\xff", "1/\xff", "\u0661/2", "1\u20442", "\u00bd", "3\uff0f2",
		strings.Repeat("0", 3000), strings.Repeat("/", 3000), strings.Repeat("9", 3000) + "/", strings.Repeat("9", 3000) + "/1", strings.Repeat("9", 3000) + "/3", "1/" + strings.Repeat("9", 3000) + "x",
	} {
		got, ok := Parse(s)
		perhaps(t, got, ok, nil, "Parse", s)
	}
}

// None but fractions' texts are read, of all short texts of some signs.
func TestParseOfAllShortTexts(t *testing.T) {
	texts := map[string]*big.Rat{}
	for n := range int64(1000) {
		for d := int64(1); d < 1000; d++ {
			if r := big.NewRat(n, d); len(r.RatString()) < 5 {
				texts[r.RatString()] = r
			}
		}
	}
	for _, n := range []int64{1000, 1234, 2400, 9999} {
		texts[big.NewRat(n, 1).RatString()] = big.NewRat(n, 1)
	}
	short := []string{""}
	read := 0
	for i := 0; i < len(short); i++ {
		s := short[i]
		if len(s) < 4 {
			for _, c := range []string{"/", "-", "0", "1", "2", "4", "9", " "} {
				short = append(short, s+c)
			}
		}
		if len(s) == 4 && !strings.Contains(s, "/") {
			continue
		}
		got, ok := Parse(s)
		perhaps(t, got, ok, texts[s], "Parse", s)
		if ok {
			read++
		}
	}
	if read < 80 {
		t.Error(read, "of", len(short))
	}
}

func TestTextsAreReadAgain(t *testing.T) {
	for _, a := range samples() {
		got, ok := Parse(Text(a))
		perhaps(t, got, ok, rat(a), "what is read again", a)
	}
	for s := range strings.FieldsSeq("0 1 7 3/2 2/3 123456789012345678901234567891/7 7/123456789012345678901234567891") {
		a, ok := Parse(s)
		if got := Text(a); got != s || !ok {
			t.Errorf("%q is read as %q, %t", s, got, ok)
		}
	}
}
