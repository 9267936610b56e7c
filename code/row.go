package code

const (
	// base is that of a row's digits, and what is added to each but the last one.
	base     = 128
	baseBits = 7
	// rowMost is how many digits the greatest number has: 63 bits.
	rowMost = 9
	// eightLen is how many bytes a number without a row has.
	eightLen = 8
)

// row tells the row of a number: none of one below 0.
func row(n int) []byte {
	if n < 0 {
		return nil
	}
	digits := make([]byte, 0, rowMost)
	for ; n >= base; n /= base {
		digits = append(digits, byte(n%base+base))
	}
	return append(digits, byte(n))
}

// rowNext tells the number whose row stands at the front of b, and how long the row is: 0 if there is none.
func rowNext(b []byte) (n, size int) {
digits:
	for i, digit := range b {
		switch {
		case i == rowMost:
			break digits
		case digit >= base:
			n += int(digit-base) << (baseBits * i)
		case digit == 0 && i > 0:
			// A row has no more digits than it needs.
			break digits
		default:
			return n + int(digit)<<(baseBits*i), i + 1
		}
	}
	return 0, 0
}

// eight tells a number's eight bytes, the high one first.
func eight(n uint64) []byte {
	b := make([]byte, eightLen)
	for i := range b {
		b[i] = byte(n >> (8 * (eightLen - 1 - i)))
	}
	return b
}

// eightNext tells the number whose eight bytes stand at the front of b, and how many they are: 0 if there are fewer.
func eightNext(b []byte) (n uint64, size int) {
	if len(b) < eightLen {
		return 0, 0
	}
	for _, digit := range b[:eightLen] {
		n = n<<8 | uint64(digit)
	}
	return n, eightLen
}
