package natural

// Div returns the quotient, rounded down, and the remainder of x and y; they are 0 and x if y is 0.
func Div(x, y Number) (Number, Number) {
	switch {
	case y.IsZero() || Compare(x, y) < 0:
		return Number{}, x
	case len(y.limbs) == 1:
		quotient, rest := divLimb(x.limbs, y.limbs[0])
		return trimmed(quotient), Of(uint64(rest))
	}
	return divLong(x.limbs, y.limbs)
}

func divLimb(x []uint32, y uint32) ([]uint32, uint32) {
	quotient := make([]uint32, len(x))
	rest := uint64(0)
	for i := len(x) - 1; i >= 0; i-- {
		rest = rest*base + uint64(x[i])
		quotient[i] = uint32(rest / uint64(y))
		rest %= uint64(y)
	}
	return quotient, uint32(rest)
}

// divLong divides by at least two limbs. Both numbers are scaled first, so that the top limb of y is at least base / 2: then a limb of the quotient is guessed from the top limbs with an error of at most 2 (Knuth, The Art of Computer Programming, 4.3.1, Algorithm D).
func divLong(x, y []uint32) (Number, Number) {
	size := len(y)
	scale := base / (y[size-1] + 1)
	rest := scaled(x, scale)
	by := scaled(y, scale)[:size]
	quotient := make([]uint32, len(rest)-size)
	for i := len(quotient) - 1; i >= 0; i-- {
		quotient[i] = divStep(rest[i:i+size+1], by)
	}
	rest, _ = divLimb(rest[:size], scale)
	return trimmed(quotient), trimmed(rest)
}

// scaled returns a multiple, with one limb more.
func scaled(x []uint32, times uint32) []uint32 {
	multiple := make([]uint32, len(x)+1)
	carry := uint64(0)
	for i, limb := range x {
		carry += uint64(limb) * uint64(times)
		multiple[i] = uint32(carry % base)
		carry /= base
	}
	multiple[len(x)] = uint32(carry)
	return multiple
}

// divStep divides x by y, which has one limb less and is greater than the limbs of x but the lowest one. It returns the quotient, and leaves the remainder in all limbs of x but the top one, which is not read again.
func divStep(x, y []uint32) uint32 {
	guess := guessLimb(x, y)
	missing := subtract(x[:len(y)], y, guess)
	if missing > uint64(x[len(y)]) {
		guess--
		addBack(x, y)
	}
	return uint32(guess)
}

// guessLimb returns the quotient of x and y, or one more.
func guessLimb(x, y []uint32) uint64 {
	top, next := uint64(y[len(y)-1]), uint64(y[len(y)-2])
	head := uint64(x[len(y)])*base + uint64(x[len(y)-1])
	guess, rest := head/top, head%top
	for rest < base && (guess >= base || guess*next > rest*base+uint64(x[len(y)-2])) {
		guess--
		rest += top
	}
	return guess
}

// addBack adds y to the lowest limbs of x, without the carry above them.
func addBack(x, y []uint32) {
	carry := uint32(0)
	for i, limb := range y {
		limb += x[i] + carry
		x[i], carry = limb%base, limb/base
	}
}
