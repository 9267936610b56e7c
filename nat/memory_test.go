package nat

import (
	"math"
	"slices"
	"testing"
)

// calls are all calls of naturals, each with the naturals that it tells.
func calls() map[string]func(a, b []uint32) [][]uint32 {
	return map[string]func(a, b []uint32) [][]uint32{
		"Right": func(a, b []uint32) [][]uint32 { Right(a); return nil },
		"Int":   func(a, b []uint32) [][]uint32 { Int(a); return nil },
		"Cmp":   func(a, b []uint32) [][]uint32 { Cmp(a, b); return nil },
		"Text":  func(a, b []uint32) [][]uint32 { Text(a); return nil },
		"Add":   func(a, b []uint32) [][]uint32 { return [][]uint32{Add(a, b)} },
		"Mul":   func(a, b []uint32) [][]uint32 { return [][]uint32{Mul(a, b)} },
		"Gcd":   func(a, b []uint32) [][]uint32 { return [][]uint32{Gcd(a, b)} },
		"Sub": func(a, b []uint32) [][]uint32 {
			less, _ := Sub(a, b)
			return [][]uint32{less}
		},
		"DivMod": func(a, b []uint32) [][]uint32 {
			quotient, rest, _ := DivMod(a, b)
			return [][]uint32{quotient, rest}
		},
	}
}

// memory are naturals of none, of few and of many digits, some of them others' multiples, and naturals that are not right.
func memory() [][]uint32 {
	return [][]uint32{{}, {1}, {6}, {12}, {math.MaxUint32}, {5, 7}, {1, 2, 3, 4}, {1, 2, 3, 5}, {2, 4, 6, 8}, {0, 0, 0, 0, 1}, {0}, {5, 0}}
}

// roomy tells the same digits with room for more behind them, in which there is something.
func roomy(a []uint32) (digits, all []uint32) {
	all = append(slices.Clone(a), 77, 78, 79)
	return all[:len(a)], all
}

// spoil changes all that can be reached from a list, and tells what it was.
func spoil(a []uint32) []uint32 {
	a = a[:cap(a)]
	was := slices.Clone(a)
	for i := range a {
		a[i] ^= math.MaxUint32
	}
	return was
}

func TestNoArgumentIsChanged(t *testing.T) {
	for name, call := range calls() {
		for _, x := range memory() {
			for _, y := range memory() {
				a, allA := roomy(x)
				b, allB := roomy(y)
				call(a, b)
				if !slices.Equal(allA, append(slices.Clone(x), 77, 78, 79)) || !slices.Equal(allB, append(slices.Clone(y), 77, 78, 79)) {
					t.Errorf("%s of %x, %x: %x, %x", name, x, y, allA, allB)
				}
			}
		}
	}
}

func TestNoAnswerSharesMemoryWithAnArgument(t *testing.T) {
	for name, call := range calls() {
		for _, x := range memory() {
			for _, y := range memory() {
				a, allA := roomy(x)
				b, allB := roomy(y)
				for i, got := range call(a, b) {
					was := slices.Clone(got)
					wasA, wasB := spoil(allA), spoil(allB)
					if !slices.Equal(got, was) {
						t.Errorf("%s of %x, %x: answer %d changes with an argument", name, x, y, i)
					}
					copy(allA, wasA)
					copy(allB, wasB)
					spoil(got)
					if !slices.Equal(allA, wasA[:len(allA)]) || !slices.Equal(allB, wasB[:len(allB)]) {
						t.Errorf("%s of %x, %x: an argument changes with answer %d", name, x, y, i)
					}
				}
			}
		}
	}
}

func TestNoTwoAnswersShareMemory(t *testing.T) {
	for name, call := range calls() {
		for _, a := range memory() {
			for _, b := range memory() {
				got := append(call(a, b), call(a, b)...)
				for i := range got {
					others := slices.Clone(got)
					for k := range others {
						others[k] = slices.Clone(got[k])
					}
					spoil(got[i])
					for k := range got {
						if k != i && !slices.Equal(got[k], others[k]) {
							t.Errorf("%s of %x, %x: answers %d and %d share memory", name, a, b, i, k)
						}
					}
				}
			}
		}
	}
}

// A natural may be both arguments, and one a part of the other one.
func TestArgumentsMayShareMemory(t *testing.T) {
	a := []uint32{3, 1 << 31, 9, math.MaxUint32, 5}
	for name, call := range calls() {
		for _, b := range [][]uint32{a, a[:3], a[1:], a[2:4], a[:0]} {
			want := call(slices.Clone(a), slices.Clone(b))
			for i, got := range call(a, b) {
				if !slices.Equal(got, want[i]) {
					t.Errorf("%s of %x, %x: %x", name, a, b, got)
				}
			}
			if !slices.Equal(a, []uint32{3, 1 << 31, 9, math.MaxUint32, 5}) {
				t.Fatalf("%s changed %x", name, a)
			}
		}
	}
}

func TestOfAndParseTellNewMemory(t *testing.T) {
	for _, n := range []uint64{0, 1, 1 << 32, math.MaxUint64} {
		a := Of(n)
		spoil(a)
		if m, _ := word(Of(n)); m != n {
			t.Errorf("Of(%d) is kept", n)
		}
	}
	for _, s := range []string{"0", "1", "4294967296", "123456789012345678901234567890"} {
		a, _ := Parse(s)
		spoil(a)
		if b, _ := Parse(s); Text(b) != s {
			t.Errorf("Parse(%q) is kept", s)
		}
	}
}
