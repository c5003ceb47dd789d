package natural

// Gcd returns the greatest common divisor; that of 0 and 0 is 0.
func Gcd(x, y Number) Number {
	if Compare(x, y) < 0 {
		x, y = y, x
	}
	for len(y.limbs) > 2 {
		x, y = reduce(x, y)
	}
	if y.IsZero() {
		return x
	}
	_, rest := Div(x, y)
	return Of(GcdWords(y.word(), rest.word()))
}

// Word returns the value of a number of at most two limbs, and false for other numbers.
func (x Number) Word() (uint64, bool) {
	if len(x.limbs) > 2 {
		return 0, false
	}
	return x.word(), true
}

// word returns the value of at most two limbs.
func (x Number) word() uint64 {
	word := uint64(0)
	for i := len(x.limbs) - 1; i >= 0; i-- {
		word = word*base + uint64(x.limbs[i])
	}
	return word
}

// GcdWords returns the greatest common divisor of numbers that fit into words.
func GcdWords(x, y uint64) uint64 {
	for y > 0 {
		x, y = y, x%y
	}
	return x
}

// reduce replaces x and y (x >= y) by later remainders of Euclid's algorithm: those after many steps, if they can be told from the top limbs, and otherwise those after one step.
func reduce(x, y Number) (Number, Number) {
	s := stepsOf(leading(x, len(x.limbs)), leading(y, len(x.limbs)))
	if s.b == 0 {
		_, rest := Div(x, y)
		return y, rest
	}
	return combine(s.a, x, s.b, y), combine(s.c, x, s.d, y)
}

// leading returns the value of the limbs size-1 and size-2 of a number.
func leading(x Number, size int) int64 {
	top := Number{x.limbs[min(size-2, len(x.limbs)):]}
	return int64(top.word())
}

// steps are some steps of Euclid's algorithm: the remainders of x and y behind them are a x + b y and c x + d y.
type steps struct {
	a, b, c, d int64
}

// stepsOf returns steps that are the same for all numbers whose top limbs are x and y: the quotient of such numbers is between those of x + a and y + c, and of x + b and y + d (Lehmer's method: Knuth, The Art of Computer Programming, 4.5.2, Algorithm L). All multipliers are less than base: the greatest one, that of d, is less than the last remainder but one, and the product of both is at most the first x, which is less than base * base.
func stepsOf(x, y int64) steps {
	s := steps{1, 0, 0, 1}
	for y+s.c != 0 && y+s.d != 0 {
		quotient := (x + s.a) / (y + s.c)
		if quotient != (x+s.b)/(y+s.d) {
			break
		}
		s = steps{s.c, s.d, s.a - quotient*s.c, s.b - quotient*s.d}
		x, y = y, x-quotient*y
	}
	return s
}

// combine returns a x + b y, which is not negative and has no more limbs than x; a and b are less than base and have different signs.
func combine(a int64, x Number, b int64, y Number) Number {
	limbs := make([]uint32, len(x.limbs))
	carry := int64(0)
	for i, limb := range x.limbs {
		carry += a * int64(limb)
		if i < len(y.limbs) {
			carry += b * int64(y.limbs[i])
		}
		low := carry % base
		if low < 0 {
			low += base
		}
		limbs[i] = uint32(low)
		carry = (carry - low) / base
	}
	return trimmed(limbs)
}
