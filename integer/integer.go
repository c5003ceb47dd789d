// Package integer computes with integers of any size: in words where they fit, and with natural numbers otherwise. It is for computations of many steps, whose numbers need not have notations on the way.
package integer

import (
	"math/bits"
	"strconv"
	"strings"

	"surveyor/api"
	"surveyor/natural"
)

// limit is the number that has one digit more than words may have. It is the least number of three limbs of package natural, and sums of words are far from overflowing.
const (
	limit      = 1000000000000000000
	wordDigits = 18
)

// Number is an integer: a word, or a long number if it does not fit into one.
type Number struct {
	word int64
	long *long
}

// long is an integer whose magnitude is at least limit.
type long struct {
	negative  bool
	magnitude natural.Number
}

// Of returns the integer of an int of less than limit.
func Of(n int) Number {
	return Number{word: int64(n)}
}

// Parse returns the integer with a canonical notation.
func Parse(a api.Int) Number {
	digits, negative := strings.CutPrefix(string(a), "-")
	if len(digits) <= wordDigits {
		word, _ := strconv.ParseInt(string(a), 10, 64)
		return Number{word: word}
	}
	magnitude, _ := natural.Parse(digits)
	return signed(negative, magnitude)
}

// Fraction returns the numerator and the denominator of a rational number in canonical notation.
func Fraction(a api.Rat) (num, den Number) {
	above, below, found := strings.Cut(string(a), "/")
	if !found {
		below = "1"
	}
	return Parse(api.Int(above)), Parse(api.Int(below))
}

// Text returns the canonical notation.
func (x Number) Text() api.Int {
	switch {
	case x.long == nil:
		return api.Int(strconv.FormatInt(x.word, 10))
	case x.long.negative:
		return api.Int("-" + x.long.magnitude.Text())
	}
	return api.Int(x.long.magnitude.Text())
}

// Digits returns the number of digits, without the sign.
func (x Number) Digits() int {
	return x.magnitude().Digits()
}

// Sign returns -1, 0 or 1.
func (x Number) Sign() int {
	switch {
	case x.isNegative():
		return -1
	case x.IsZero():
		return 0
	}
	return 1
}

// IsZero reports whether an integer is 0.
func (x Number) IsZero() bool {
	return x.long == nil && x.word == 0
}

func (x Number) isNegative() bool {
	if x.long != nil {
		return x.long.negative
	}
	return x.word < 0
}

// signed returns the integer with a sign and a magnitude.
func signed(negative bool, magnitude natural.Number) Number {
	word, fits := magnitude.Word()
	if !fits {
		return Number{long: &long{negative, magnitude}}
	}
	return signedWord(negative, word)
}

func signedWord(negative bool, word uint64) Number {
	if negative {
		return Number{word: -int64(word)}
	}
	return Number{word: int64(word)}
}

func (x Number) magnitude() natural.Number {
	if x.long != nil {
		return x.long.magnitude
	}
	return natural.Of(magnitudeOf(x.word))
}

func magnitudeOf(word int64) uint64 {
	return uint64(max(word, -word))
}

// ofWord returns the integer of a word that may be too great for one.
func ofWord(word int64) Number {
	if word < limit && word > -limit {
		return Number{word: word}
	}
	return signed(word < 0, natural.Of(magnitudeOf(word)))
}

// Neg returns the negation.
func (x Number) Neg() Number {
	if x.long == nil {
		return Number{word: -x.word}
	}
	return Number{long: &long{!x.long.negative, x.long.magnitude}}
}

// Abs returns the magnitude.
func (x Number) Abs() Number {
	if x.isNegative() {
		return x.Neg()
	}
	return x
}

// Compare returns -1, 0 or 1 if x is less than, equal to, or greater than y.
func Compare(x, y Number) int {
	return Sub(x, y).Sign()
}

// Add returns the sum.
func Add(x, y Number) Number {
	if x.long == nil && y.long == nil {
		return ofWord(x.word + y.word)
	}
	a, b := x.magnitude(), y.magnitude()
	switch {
	case x.isNegative() == y.isNegative():
		return signed(x.isNegative(), natural.Add(a, b))
	case natural.Compare(a, b) < 0:
		return signed(y.isNegative(), natural.Distance(a, b))
	}
	return signed(x.isNegative(), natural.Distance(a, b))
}

// Sub returns the difference.
func Sub(x, y Number) Number {
	return Add(x, y.Neg())
}

// Mul returns the product.
func Mul(x, y Number) Number {
	negative := x.isNegative() != y.isNegative()
	if x.long == nil && y.long == nil {
		high, low := bits.Mul64(magnitudeOf(x.word), magnitudeOf(y.word))
		if high == 0 && low < limit {
			return signedWord(negative, low)
		}
	}
	return signed(negative, natural.Mul(x.magnitude(), y.magnitude()))
}

// Divide returns the quotient of x and y, where y is not 0, and x is a multiple of y.
func Divide(x, y Number) Number {
	if x.long == nil && y.long == nil {
		return Number{word: x.word / y.word}
	}
	quotient, _ := natural.Div(x.magnitude(), y.magnitude())
	return signed(x.isNegative() != y.isNegative(), quotient)
}

// Quo returns the quotient of x and y, where y is not 0, rounded down.
func Quo(x, y Number) Number {
	return Divide(Sub(x, Rem(x, y)), y)
}

// Rem returns what the quotient of x and y, where y is not 0, leaves of x: it is 0, or has the sign of y.
func Rem(x, y Number) Number {
	rest := remainder(x, y)
	if !rest.IsZero() && rest.isNegative() != y.isNegative() {
		return Add(rest, y)
	}
	return rest
}

// remainder returns the remainder of x and y, where y is not 0, with the sign of x.
func remainder(x, y Number) Number {
	if x.long == nil && y.long == nil {
		return Number{word: x.word % y.word}
	}
	_, rest := natural.Div(x.magnitude(), y.magnitude())
	return signed(x.isNegative(), rest)
}

// Gcd returns the greatest common divisor, which is not negative.
func Gcd(x, y Number) Number {
	if x.long == nil && y.long == nil {
		return signedWord(false, natural.GcdWords(magnitudeOf(x.word), magnitudeOf(y.word)))
	}
	return signed(false, natural.Gcd(x.magnitude(), y.magnitude()))
}

// Lcm returns the least common multiple of positive integers.
func Lcm(x, y Number) Number {
	return Mul(Divide(x, Gcd(x, y)), y)
}
