package num

import (
	"math/big"
	"testing"

	"corsned/api"
)

// ends are numbers at which something begins or ends: those of coins, of numbers, and of what a product of two words holds.
func ends() []int {
	l := []int{}
	for _, n := range []int{api.MinInt, -api.MaxCoin, -1 << 32, 0, 10, 1000, 1 << 14, 1 << 32, api.MaxCoin / 2, api.MaxCoin, 1 << 61, 1 << 62, api.MaxInt} {
		for d := -2; d <= 2; d++ {
			if m := n + d; (m < n) == (d < 0) {
				l = append(l, m)
			}
		}
	}
	return append(l, 3, 7, 9999999967, 999999999999989)
}

// coin tells n and true, if it is coins; else 0, false.
func coin(n *big.Int) (int, bool) {
	if n.Sign() < 0 || n.Cmp(big.NewInt(api.MaxCoin)) > 0 {
		return 0, false
	}
	return int(n.Int64()), true
}

func isCoin(n int) bool {
	return n >= 0 && n <= 1<<50
}

func TestEndsAreRight(t *testing.T) {
	have := map[int]bool{}
	for _, n := range ends() {
		have[n] = true
	}
	for _, n := range []int{api.MinInt, -1, 0, 1, api.MaxCoin - 1, api.MaxCoin, api.MaxCoin + 1, api.MaxInt} {
		if !have[n] {
			t.Error(n)
		}
	}
}

// P1.1

func TestAddOfExamples(t *testing.T) {
	for _, x := range []struct {
		a, b, want int
		ok         bool
	}{
		{0, 0, 0, true},
		{3, 4, 7, true},
		{1 << 49, 1 << 49, 1 << 50, true},
		{1 << 50, 0, 1 << 50, true},
		{0, 1 << 50, 1 << 50, true},
		{1<<50 - 1, 1, 1 << 50, true},
		{1 << 50, 1, 0, false},
		{1, 1 << 50, 0, false},
		{1<<50 + 1, 0, 0, false},
		{0, 1<<50 + 1, 0, false},
		{1<<50 + 1, -1, 0, false},
		{-1, 1<<50 + 1, 0, false},
		{-1, 1, 0, false},
		{5, -3, 0, false},
		{api.MaxInt, api.MinInt, 0, false},
		{api.MinInt, api.MinInt, 0, false},
		{api.MaxInt, 1, 0, false},
	} {
		if got, ok := Add(x.a, x.b); got != x.want || ok != x.ok {
			t.Errorf("Add(%d, %d) = %d, %t", x.a, x.b, got, ok)
		}
	}
}

func TestSubOfExamples(t *testing.T) {
	for _, x := range []struct {
		a, b, want int
		ok         bool
	}{
		{0, 0, 0, true},
		{7, 4, 3, true},
		{1 << 50, 1 << 50, 0, true},
		{1 << 50, 0, 1 << 50, true},
		{4, 7, 0, false},
		{0, 1, 0, false},
		{0, 1 << 50, 0, false},
		{1<<50 + 1, 1, 0, false},
		{1<<50 + 1, 1<<50 + 1, 0, false},
		{5, -1, 0, false},
		{-1, -1, 0, false},
		{-1, -5, 0, false},
		{api.MinInt, 1, 0, false},
		{api.MinInt, api.MinInt, 0, false},
		{api.MaxInt, api.MaxInt, 0, false},
	} {
		if got, ok := Sub(x.a, x.b); got != x.want || ok != x.ok {
			t.Errorf("Sub(%d, %d) = %d, %t", x.a, x.b, got, ok)
		}
	}
}

func TestAddAndSubAtAllEnds(t *testing.T) {
	for _, a := range ends() {
		for _, b := range ends() {
			sum, add := 0, false
			less, sub := 0, false
			if isCoin(a) && isCoin(b) {
				sum, add = coin(new(big.Int).Add(big.NewInt(int64(a)), big.NewInt(int64(b))))
				less, sub = coin(new(big.Int).Sub(big.NewInt(int64(a)), big.NewInt(int64(b))))
			}
			if got, ok := Add(a, b); got != sum || ok != add {
				t.Errorf("Add(%d, %d) = %d, %t", a, b, got, ok)
			}
			if got, ok := Sub(a, b); got != less || ok != sub {
				t.Errorf("Sub(%d, %d) = %d, %t", a, b, got, ok)
			}
		}
	}
}

// P1.2

func TestPartsOfExamples(t *testing.T) {
	for _, x := range []struct {
		a, num, den int
		part, up    int
		ok, upOk    bool
	}{
		{10, 2, 3, 6, 7, true, true},
		{9, 2, 3, 6, 6, true, true},
		{0, 5, 3, 0, 0, true, true},
		{5, 0, 3, 0, 0, true, true},
		{0, api.MaxInt, 1, 0, 0, true, true},
		{7, 3, 1, 21, 21, true, true},
		{1, api.MaxInt, api.MaxInt, 1, 1, true, true},
		{1, 1, api.MaxInt, 0, 1, true, true},
		{1 << 50, 1, 1, 1 << 50, 1 << 50, true, true},
		{1, 1 << 50, 1, 1 << 50, 1 << 50, true, true},
		{1, 1<<50 + 1, 1, 0, 0, false, false},
		{1 << 50, 2, 1, 0, 0, false, false},
		{1 << 50, api.MaxInt, 1, 0, 0, false, false},
		{1 << 50, api.MaxInt, api.MaxInt, 1 << 50, 1 << 50, true, true},
		{1 << 50, api.MaxInt, api.MaxInt - 1, 1 << 50, 0, true, false},
		{1 << 50, api.MaxInt - 1, api.MaxInt, 1<<50 - 1, 1 << 50, true, true},
		{1, 1<<51 + 1, 2, 1 << 50, 0, true, false},
		{3, 1 << 62, 1<<62 - 1, 3, 4, true, true},
		{1 << 14, 1 << 50, 1, 0, 0, false, false},
		{1 << 50, 1 << 62, 1 << 61, 0, 0, false, false},
		{-1, 1, 1, 0, 0, false, false},
		{1<<50 + 1, 1, 9, 0, 0, false, false},
		{1<<50 + 1, 0, 1, 0, 0, false, false},
		{5, -1, 1, 0, 0, false, false},
		{0, -1, 1, 0, 0, false, false},
		{5, 1, 0, 0, 0, false, false},
		{0, 0, 0, 0, 0, false, false},
		{5, 1, -1, 0, 0, false, false},
		{5, -1, -1, 0, 0, false, false},
		{api.MinInt, api.MinInt, api.MinInt, 0, 0, false, false},
	} {
		if got, ok := Part(x.a, x.num, x.den); got != x.part || ok != x.ok {
			t.Errorf("Part(%d, %d, %d) = %d, %t", x.a, x.num, x.den, got, ok)
		}
		if got, ok := Up(x.a, x.num, x.den); got != x.up || ok != x.upOk {
			t.Errorf("Up(%d, %d, %d) = %d, %t", x.a, x.num, x.den, got, ok)
		}
	}
}

func TestPartsAtAllEnds(t *testing.T) {
	for _, a := range ends() {
		for _, num := range ends() {
			for _, den := range ends() {
				part, ok := 0, false
				up, upOk := 0, false
				if isCoin(a) && num >= 0 && den >= 1 {
					product := new(big.Int).Mul(big.NewInt(int64(a)), big.NewInt(int64(num)))
					quotient, rest := new(big.Int).QuoRem(product, big.NewInt(int64(den)), new(big.Int))
					part, ok = coin(quotient)
					if rest.Sign() > 0 {
						quotient.Add(quotient, big.NewInt(1))
					}
					up, upOk = coin(quotient)
				}
				if got, is := Part(a, num, den); got != part || is != ok {
					t.Fatalf("Part(%d, %d, %d) = %d, %t", a, num, den, got, is)
				}
				if got, is := Up(a, num, den); got != up || is != upOk {
					t.Fatalf("Up(%d, %d, %d) = %d, %t", a, num, den, got, is)
				}
			}
		}
	}
}

// P1.4

func TestWhatIsAddedIsTakenAway(t *testing.T) {
	for _, a := range ends() {
		for _, b := range ends() {
			if sum, ok := Add(a, b); ok {
				if got, is := Sub(sum, b); got != a || !is {
					t.Errorf("%d and %d, less %d: %d, %t", a, b, b, got, is)
				}
			}
			if less, ok := Sub(a, b); ok {
				if got, is := Add(less, b); got != a || !is {
					t.Errorf("%d less %d, and %d: %d, %t", a, b, b, got, is)
				}
			}
		}
	}
}

func TestPartAndRestAreTheWhole(t *testing.T) {
	seen := 0
	for _, a := range ends() {
		for _, num := range ends() {
			for _, den := range ends() {
				if !isCoin(a) || num < 0 || num > den || den < 1 {
					continue
				}
				seen++
				part, ok := Part(a, num, den)
				rest, is := Up(a, den-num, den)
				if whole, all := Add(part, rest); whole != a || !ok || !is || !all {
					t.Fatalf("%d of %d, %d: %d and %d", a, num, den, part, rest)
				}
			}
		}
	}
	if seen == 0 {
		t.Error("nothing was held")
	}
}

func TestPartUpwardsIsThePartOrOneMore(t *testing.T) {
	for _, a := range ends() {
		for _, num := range ends() {
			for _, den := range ends() {
				part, ok := Part(a, num, den)
				up, is := Up(a, num, den)
				if is && (!ok || up != part && up != part+1) {
					t.Fatalf("%d, %d, %d: %d, %t and %d", a, num, den, part, ok, up)
				}
				if ok && !is && part != api.MaxCoin {
					t.Fatalf("%d, %d, %d: %d, and none upwards", a, num, den, part)
				}
			}
		}
	}
}
