package frac

import (
	"math"
	"slices"
	"testing"

	"corsned/api"
)

// calls are all calls of fractions, each with the lists of digits that it tells.
func calls() map[string]func(a, b api.Frac) [][]uint32 {
	perhaps := func(a api.Frac, ok bool) [][]uint32 { return [][]uint32{a.Num, a.Den} }
	sure := func(a api.Frac) [][]uint32 { return perhaps(a, true) }
	return map[string]func(a, b api.Frac) [][]uint32{
		"Right":     func(a, b api.Frac) [][]uint32 { Right(a); return nil },
		"Cmp":       func(a, b api.Frac) [][]uint32 { Cmp(a, b); return nil },
		"Text":      func(a, b api.Frac) [][]uint32 { Text(a); return nil },
		"Whole":     func(a, b api.Frac) [][]uint32 { return sure(Whole(a.Num)) },
		"Add":       func(a, b api.Frac) [][]uint32 { return sure(Add(a, b)) },
		"Sub":       func(a, b api.Frac) [][]uint32 { return perhaps(Sub(a, b)) },
		"Mul":       func(a, b api.Frac) [][]uint32 { return sure(Mul(a, b)) },
		"Quo":       func(a, b api.Frac) [][]uint32 { return perhaps(Quo(a, b)) },
		"Floor":     func(a, b api.Frac) [][]uint32 { return [][]uint32{Floor(a)} },
		"Pow of 0":  func(a, b api.Frac) [][]uint32 { return perhaps(Pow(a, 0)) },
		"Pow of 1":  func(a, b api.Frac) [][]uint32 { return perhaps(Pow(a, 1)) },
		"Pow of 3":  func(a, b api.Frac) [][]uint32 { return perhaps(Pow(a, 3)) },
		"Pow of 65": func(a, b api.Frac) [][]uint32 { return perhaps(Pow(a, 65)) },
		"Of 3, 7":   func(a, b api.Frac) [][]uint32 { return perhaps(Of(3, 7)) },
		"Of 5, 5":   func(a, b api.Frac) [][]uint32 { return perhaps(Of(5, 5)) },
		"Of 0, 5":   func(a, b api.Frac) [][]uint32 { return perhaps(Of(0, 5)) },
		"Of 5, 0":   func(a, b api.Frac) [][]uint32 { return perhaps(Of(5, 0)) },
		"Parse":     func(a, b api.Frac) [][]uint32 { return perhaps(Parse("123456789012/7")) },
		"Parse 1":   func(a, b api.Frac) [][]uint32 { return perhaps(Parse("1")) },
		"Parse 2/4": func(a, b api.Frac) [][]uint32 { return perhaps(Parse("2/4")) },
	}
}

// memory are fractions of few and of many digits, some of which leave nothing, or just the other one, when they are reckoned with, and fractions that are not right.
func memory() []api.Frac {
	return []api.Frac{
		of(0, 1), of(1, 1), of(1, 2), of(2, 1), of(3, 2), of(2, 3), of(7, 6), of(6, 7), of(1<<40, 3), of(3, 1<<40),
		{Num: []uint32{1, 2, 3, 4}, Den: []uint32{5, 6, 7}}, {Num: []uint32{5, 6, 7}, Den: []uint32{1, 2, 3, 4}}, {Num: []uint32{1, 2, 3, 4}, Den: []uint32{1}},
		{}, {Num: []uint32{2, 2}, Den: []uint32{4, 4}}, {Num: []uint32{7, 0}, Den: []uint32{1}}, {Num: []uint32{3}, Den: []uint32{5, 0}}, {Den: []uint32{2}}, {Num: []uint32{2}},
	}
}

// roomy tells the same fraction with room for more behind its digits, in which there is something, and all that can be reached of it.
func roomy(a api.Frac) (api.Frac, [][]uint32) {
	num := append(slices.Clone(a.Num), 77, 78, 79)
	den := append(slices.Clone(a.Den), 87, 88, 89)
	return api.Frac{Num: num[:len(a.Num)], Den: den[:len(a.Den)]}, [][]uint32{num, den}
}

// cloned tells the same lists in memory of their own.
func cloned(lists [][]uint32) [][]uint32 {
	l := make([][]uint32, len(lists))
	for i := range lists {
		l[i] = slices.Clone(lists[i])
	}
	return l
}

// alike tells whether lists are the same, each with the one in its place.
func alike(a, b [][]uint32) bool {
	return slices.EqualFunc(a, b, slices.Equal)
}

// spoil changes all that can be reached from lists.
func spoil(lists ...[]uint32) {
	for _, a := range lists {
		a = a[:cap(a)]
		for i := range a {
			a[i] ^= math.MaxUint32
		}
	}
}

// everywhere holds something of all calls and all pairs of such fractions: their name, the call, and two fractions.
func everywhere(hold func(name string, call func(a, b api.Frac) [][]uint32, a, b api.Frac)) {
	for name, call := range calls() {
		for _, a := range memory() {
			for _, b := range memory() {
				hold(name, call, a, b)
			}
		}
	}
}

// P3.5

func TestNoArgumentIsChanged(t *testing.T) {
	everywhere(func(name string, call func(a, b api.Frac) [][]uint32, x, y api.Frac) {
		a, allA := roomy(x)
		b, allB := roomy(y)
		wasA, wasB := cloned(allA), cloned(allB)
		call(a, b)
		if !alike(allA, wasA) || !alike(allB, wasB) {
			t.Errorf("%s of %x, %x: %x, %x", name, x, y, allA, allB)
		}
	})
}

func TestNoAnswerSharesMemoryWithAnArgument(t *testing.T) {
	everywhere(func(name string, call func(a, b api.Frac) [][]uint32, x, y api.Frac) {
		a, allA := roomy(x)
		b, allB := roomy(y)
		got := call(a, b)
		was := cloned(got)
		spoil(allA...)
		spoil(allB...)
		if !alike(got, was) {
			t.Errorf("%s of %x, %x: %x changes with an argument", name, x, y, got)
		}
		wasA, wasB := cloned(allA), cloned(allB)
		spoil(got...)
		if !alike(allA, wasA) || !alike(allB, wasB) {
			t.Errorf("%s of %x, %x: an argument changes with %x", name, x, y, got)
		}
	})
}

func TestNoTwoListsOfAnswersShareMemory(t *testing.T) {
	everywhere(func(name string, call func(a, b api.Frac) [][]uint32, a, b api.Frac) {
		got := append(call(a, b), call(a, b)...)
		for i := range got {
			was := cloned(got)
			spoil(got[i])
			for k := range got {
				if k != i && !slices.Equal(got[k], was[k]) {
					t.Errorf("%s of %x, %x: lists %d and %d share memory", name, a, b, i, k)
				}
			}
		}
	})
}

// What was told stays what it is, whatever is done with what else was told.
func TestNothingIsKept(t *testing.T) {
	everywhere(func(name string, call func(a, b api.Frac) [][]uint32, a, b api.Frac) {
		got := call(a, b)
		want := cloned(got)
		spoil(got...)
		if again := call(a, b); !alike(again, want) {
			t.Errorf("%s of %x, %x: %x, and %x then", name, a, b, want, again)
		}
	})
}

// A fraction may be both arguments, and its two lists, and those of two fractions, may be pieces of one.
func TestArgumentsMayShareMemory(t *testing.T) {
	digits := []uint32{3, 1, 9, math.MaxUint32, 5}
	was := slices.Clone(digits)
	pieces := [][]uint32{digits[:0], digits[:1], digits[1:2], digits[:2], digits[1:3], digits[2:], digits}
	for name, call := range calls() {
		for i := range len(pieces) * len(pieces) {
			a := api.Frac{Num: pieces[i%len(pieces)], Den: pieces[i/len(pieces)]}
			for _, b := range []api.Frac{a, {Num: a.Den, Den: a.Num}, {Num: digits[1:], Den: digits[:1]}} {
				want := call(api.Frac{Num: slices.Clone(a.Num), Den: slices.Clone(a.Den)}, api.Frac{Num: slices.Clone(b.Num), Den: slices.Clone(b.Den)})
				got := call(a, b)
				if !alike(got, want) || !slices.Equal(digits, was) {
					t.Fatalf("%s of %x, %x: %x, not %x; %x", name, a, b, got, want, digits)
				}
				copies := cloned(got)
				spoil(digits)
				if !alike(got, copies) {
					t.Fatalf("%s of %x, %x: %x changes with an argument", name, a, b, got)
				}
				copy(digits, was)
			}
		}
	}
}

// Whatever is handed in, right or not, all fractions that are told are right.
func TestAllThatIsToldIsRight(t *testing.T) {
	for name, call := range calls() {
		for _, a := range samples() {
			for _, b := range memory() {
				got := call(a, b)
				if len(got) == 2 && !right(api.Frac{Num: got[0], Den: got[1]}) {
					t.Fatalf("%s of %x, %x: %x", name, a, b, got)
				}
			}
		}
	}
}
