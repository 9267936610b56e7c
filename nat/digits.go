package nat

// counted tells the digits that count: those of a natural that is not right are none.
func counted(a []uint32) []uint32 {
	if !Right(a) {
		return nil
	}
	return a
}

// copied tells the same digits in memory of their own.
func copied(a []uint32) []uint32 {
	digits := make([]uint32, len(a))
	copy(digits, a)
	return digits
}

// trim leaves out what is 0 on top.
func trim(a []uint32) []uint32 {
	for !Right(a) {
		a = a[:len(a)-1]
	}
	return a
}

// word tells the number that a natural is, if it has at most 64 bits.
func word(a []uint32) (uint64, bool) {
	if len(a) > 2 {
		return 0, false
	}
	n := uint64(0)
	for i, digit := range a {
		n |= uint64(digit) << (32 * i)
	}
	return n, true
}

// addTimes adds b, so many times, to a, which has as many digits at least. It tells whether a was too short for the sum.
func addTimes(a, b []uint32, times uint32) bool {
	// The greatest digits' product, and two digits more, are just 2^64 - 1.
	carry := uint64(0)
	for i, digit := range b {
		carry += uint64(digit)*uint64(times) + uint64(a[i])
		a[i] = uint32(carry)
		carry >>= 32
	}
	for i := len(b); i < len(a) && carry > 0; i++ {
		carry += uint64(a[i])
		a[i] = uint32(carry)
		carry >>= 32
	}
	return carry > 0
}

// takeTimes takes b, so many times, away from a, which has as many digits at least. It tells whether that was more than a.
func takeTimes(a, b []uint32, times uint32) bool {
	// What is owed stays below 2^32: where a product's high half is the greatest one, its low half is 0.
	owed := uint64(0)
	for i, digit := range b {
		owed += uint64(digit) * uint64(times)
		low := uint32(owed)
		owed >>= 32
		if a[i] < low {
			owed++
		}
		a[i] -= low
	}
	for i := len(b); i < len(a) && owed > 0; i++ {
		low := uint32(owed)
		owed = 0
		if a[i] < low {
			owed = 1
		}
		a[i] -= low
	}
	return owed > 0
}

// divide makes of a, in its own place, what it is when it is divided by one digit but 0, and tells what is left.
func divide(a []uint32, by uint32) uint32 {
	rest := uint64(0)
	for i := len(a) - 1; i >= 0; i-- {
		rest = rest<<32 | uint64(a[i])
		a[i] = uint32(rest / uint64(by))
		rest %= uint64(by)
	}
	return uint32(rest)
}
