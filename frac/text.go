package frac

import (
	"strings"

	"corsned/api"
	"corsned/nat"
)

// Text tells a fraction's decimal text.
func Text(a api.Frac) string {
	a = counted(a)
	if isOne(a.Den) {
		return nat.Text(a.Num)
	}
	return nat.Text(a.Num) + "/" + nat.Text(a.Den)
}

// Parse tells the fraction of a text, if it is one's.
func Parse(s string) (api.Frac, bool) {
	above, below, both := strings.Cut(s, "/")
	num, ok := nat.Parse(above)
	if ok && !both {
		return Whole(num), true
	}
	den, is := nat.Parse(below)
	a := api.Frac{Num: num, Den: den}
	if !ok || !is || isOne(den) || !Right(a) {
		return nought(), false
	}
	return a, true
}
