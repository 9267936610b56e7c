package hash

import "corsned/api"

// digits are those in base 16.
const digits = "0123456789abcdef"

// Hex tells a sum's digits in base 16.
func Hex(h api.Hash) string {
	text := make([]byte, 0, 2*len(h))
	for _, b := range h {
		text = append(text, digits[b>>4], digits[b&15])
	}
	return string(text)
}

// Read tells the sum of a text, if it is one's.
func Read(s string) (api.Hash, bool) {
	var h api.Hash
	if len(s) != 2*len(h) {
		return api.Hash{}, false
	}
	for i := range h {
		high, isHigh := digit(s[2*i])
		low, isLow := digit(s[2*i+1])
		if !isHigh || !isLow {
			return api.Hash{}, false
		}
		h[i] = high<<4 | low
	}
	return h, true
}

// digit tells what a digit in base 16 is worth, if it is one.
func digit(c byte) (byte, bool) {
	switch {
	case c >= '0' && c <= '9':
		return c - '0', true
	case c >= 'a' && c <= 'f':
		return c - 'a' + 10, true
	}
	return 0, false
}
