package nat

// A group is as many decimal digits as one digit in base 2^32 can hold, whatever they are.
const (
	groupLen = 9
	group    = 1_000_000_000
)

// Text tells a natural's decimal digits.
func Text(a []uint32) string {
	left := copied(counted(a))
	if len(left) == 0 {
		return "0"
	}
	// A digit in base 2^32 makes at most 10 decimals; the last group may have 0s ahead. The last decimals are known first.
	text := make([]byte, 10*len(left)+groupLen)
	at := len(text)
	for len(left) > 0 {
		rest := divide(left, group)
		left = trim(left)
		for range groupLen {
			at--
			text[at] = '0' + byte(rest%10)
			rest /= 10
		}
	}
	for text[at] == '0' {
		at++
	}
	return string(text[at:])
}

// Parse tells the natural of a text, if it is one's.
func Parse(s string) ([]uint32, bool) {
	if !decimal(s) {
		return nil, false
	}
	n := []uint32{}
	for s != "" {
		size := (len(s)-1)%groupLen + 1
		more := uint32(0)
		for _, c := range s[:size] {
			more = 10*more + uint32(c-'0')
		}
		n = grow(n, group, more)
		s = s[size:]
	}
	return n, true
}

// decimal tells whether a text is `0`, or a digit but 0 and any digits.
func decimal(s string) bool {
	if s == "" || s[0] == '0' && len(s) > 1 {
		return false
	}
	for _, c := range s {
		if c < '0' || c > '9' {
			return false
		}
	}
	return true
}

// grow makes of a, in its own place, so many times as much, and more.
func grow(a []uint32, times, more uint32) []uint32 {
	carry := uint64(more)
	for i, digit := range a {
		carry += uint64(digit) * uint64(times)
		a[i] = uint32(carry)
		carry >>= 32
	}
	if carry > 0 {
		a = append(a, uint32(carry))
	}
	return a
}
