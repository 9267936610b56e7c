package num

import "corsned/api"

// Text tells a number's decimal text.
func Text(n int) string {
	size := uint64(n)
	if n < 0 {
		// The lowest number has no opposite among the ints.
		size = -size
	}
	// No number has more than a sign and 19 digits; the last ones are known first.
	var text [20]byte
	at := len(text)
	put := func(c byte) {
		at--
		text[at] = c
	}
	for size > 9 {
		put('0' + byte(size%10))
		size /= 10
	}
	put('0' + byte(size))
	if n < 0 {
		put('-')
	}
	return string(text[at:])
}

// Parse tells the number of a decimal text, if it is from low to high.
func Parse(s string, low, high int) (int, bool) {
	n, ok := read(s)
	if !ok || n < low || n > high {
		return 0, false
	}
	return n, true
}

// read tells the number of a decimal text, if it is within the ends of numbers.
func read(s string) (int, bool) {
	if s == "0" {
		return 0, true
	}
	most := uint64(api.MaxInt)
	below := s != "" && s[0] == '-'
	if below {
		s = s[1:]
		// There is one number more below 0 than above it.
		most++
	}
	if s == "" || s[0] == '0' {
		return 0, false
	}
	size, ok := digits(s, most)
	if !ok {
		return 0, false
	}
	if below {
		size = -size
	}
	return int(size), true
}

// digits tells the number of a row of digits, if it is not above most, which is 9 or more.
func digits(s string, most uint64) (uint64, bool) {
	size := uint64(0)
	for _, c := range s {
		if c < '0' || c > '9' {
			return 0, false
		}
		digit := uint64(c - '0')
		if size > (most-digit)/10 {
			return 0, false
		}
		size = 10*size + digit
	}
	return size, true
}
