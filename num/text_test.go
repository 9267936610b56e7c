package num

import (
	"math/big"
	"regexp"
	"strconv"
	"strings"
	"testing"

	"corsned/api"
)

// P1.3

func TestText(t *testing.T) {
	for n, want := range map[int]string{
		0: "0", 1: "1", 9: "9", 10: "10", 1000: "1000", 1 << 50: "1125899906842624",
		-1: "-1", -9: "-9", -10: "-10", -7000: "-7000",
		api.MaxInt: "9223372036854775807", api.MinInt: "-9223372036854775808", -api.MaxInt: "-9223372036854775807",
	} {
		if got := Text(n); got != want {
			t.Errorf("Text(%d) = %q", n, got)
		}
	}
	for _, n := range ends() {
		if got := Text(n); got != strconv.Itoa(n) {
			t.Errorf("Text(%d) = %q", n, got)
		}
	}
}

func TestParseOfTexts(t *testing.T) {
	for s, want := range map[string]int{
		"0": 0, "7": 7, "10": 10, "100": 100, "-1": -1, "-10": -10,
		"9223372036854775807": api.MaxInt, "-9223372036854775808": api.MinInt, "-9223372036854775807": -api.MaxInt,
	} {
		if n, ok := Parse(s, api.MinInt, api.MaxInt); n != want || !ok {
			t.Errorf("Parse(%q) = %d, %t", s, n, ok)
		}
	}
}

func TestParseOfNoTexts(t *testing.T) {
	for _, s := range []string{
		"", "-", "-0", "00", "-00", "007", "-07", "+1", "+0", "--1", "1-", "-1-", "1+",
		" 1", "1 ", "1 2", "\t1", "1\n", "1_000", "1,000", "1.0", "1e3", "0x1", "a", "1a", "/", ":", "1/", "1:",
		"\x00", "1\x00", "\xff", "1\xff", "\u0661", "1\u0661", "\uff11", "\u22121", "\u0130",
		"9223372036854775808", "-9223372036854775809", "9223372036854775810", "-9223372036854775810",
		"18446744073709551615", "18446744073709551616", "18446744073709551617", "-18446744073709551615",
		"10000000000000000000", "99999999999999999999", "-99999999999999999999",
		"340282366920938463463374607431768211457",
		"1" + strings.Repeat("0", 5000), "-1" + strings.Repeat("0", 5000), strings.Repeat("0", 5000), strings.Repeat("-", 5000),
	} {
		if n, ok := Parse(s, api.MinInt, api.MaxInt); n != 0 || ok {
			t.Errorf("Parse(%q) = %d, %t", s, n, ok)
		}
	}
}

func TestParseWithinLowAndHigh(t *testing.T) {
	for _, x := range []struct {
		s         string
		low, high int
		want      int
		ok        bool
	}{
		{"5", 5, 5, 5, true},
		{"5", 4, 6, 5, true},
		{"5", 5, 9, 5, true},
		{"5", 1, 5, 5, true},
		{"5", 6, 9, 0, false},
		{"5", 1, 4, 0, false},
		{"5", 6, 4, 0, false},
		{"5", 9, 1, 0, false},
		{"-5", -5, -5, -5, true},
		{"-5", -4, 9, 0, false},
		{"-5", -9, -6, 0, false},
		{"0", 0, 0, 0, true},
		{"0", 1, 1, 0, false},
		{"0", -1, -1, 0, false},
		{"0", 1, -1, 0, false},
		{"9223372036854775807", api.MaxInt, api.MaxInt, api.MaxInt, true},
		{"9223372036854775806", api.MaxInt, api.MaxInt, 0, false},
		{"-9223372036854775808", api.MinInt, api.MinInt, api.MinInt, true},
		{"-9223372036854775807", api.MinInt, api.MinInt, 0, false},
		{"0", api.MaxInt, api.MinInt, 0, false},
	} {
		if n, ok := Parse(x.s, x.low, x.high); n != x.want || ok != x.ok {
			t.Errorf("Parse(%q, %d, %d) = %d, %t", x.s, x.low, x.high, n, ok)
		}
	}
}

// want tells what Parse is to tell, by the chapter's words and numbers without bounds.
func want(s string, low, high int) (int, bool) {
	if !regexp.MustCompile(`\A(0|-?[1-9][0-9]*)\z`).MatchString(s) {
		return 0, false
	}
	n, _ := new(big.Int).SetString(s, 10)
	if n.Cmp(big.NewInt(int64(low))) < 0 || n.Cmp(big.NewInt(int64(high))) > 0 {
		return 0, false
	}
	return int(n.Int64()), true
}

func TestParseOfAllShortTexts(t *testing.T) {
	texts := []string{""}
	for i := 0; i < len(texts); i++ {
		s := texts[i]
		if len(s) < 4 {
			for _, c := range []string{"-", "+", "0", "1", "9", " ", "/", ":"} {
				texts = append(texts, s+c)
			}
		}
		for _, x := range [][2]int{{api.MinInt, api.MaxInt}, {-100, 100}, {10, -10}} {
			n, ok := Parse(s, x[0], x[1])
			if m, is := want(s, x[0], x[1]); n != m || ok != is {
				t.Fatalf("Parse(%q, %d, %d) = %d, %t", s, x[0], x[1], n, ok)
			}
		}
	}
}

// Texts just within and just beyond the ends of numbers, and those of ten times as much.
func TestParseAroundTheEnds(t *testing.T) {
	for _, n := range []string{"9223372036854775807", "-9223372036854775808", "18446744073709551616", "-18446744073709551616", "92233720368547758070", "-92233720368547758080"} {
		for d := int64(-20); d <= 20; d++ {
			m, _ := new(big.Int).SetString(n, 10)
			s := m.Add(m, big.NewInt(d)).String()
			got, ok := Parse(s, api.MinInt, api.MaxInt)
			if m, is := want(s, api.MinInt, api.MaxInt); got != m || ok != is {
				t.Errorf("Parse(%q) = %d, %t", s, got, ok)
			}
		}
	}
}

// P1.4

func TestTextsAndNumbersAreEachOthers(t *testing.T) {
	for _, n := range ends() {
		s := Text(n)
		if m, ok := Parse(s, api.MinInt, api.MaxInt); m != n || !ok {
			t.Errorf("%d: %q: %d, %t", n, s, m, ok)
		}
		if m, ok := Parse(s, n, n); m != n || !ok {
			t.Errorf("%d: %q: %d, %t", n, s, m, ok)
		}
	}
	for _, s := range []string{"0", "1", "-1", "12", "-1200", "1125899906842625", "9223372036854775807", "-9223372036854775808"} {
		n, ok := Parse(s, api.MinInt, api.MaxInt)
		if u := Text(n); u != s || !ok {
			t.Errorf("%q: %d, %t: %q", s, n, ok, u)
		}
	}
}
