// Package bigint implements layer 1: integers of any size.
package bigint

import (
	"math/bits"
	"strconv"
	"strings"

	"surveyor/api"
)

// Check returns OK for integers in canonical notation with at most api.MaxLong digits.
func Check(a api.Int) api.Errno {
	switch {
	case !isCanonical(a):
		return api.ErrForm
	case isLong(a):
		return api.ErrLarge
	}
	return api.OK
}

func isCanonical(a api.Int) bool {
	text := digits(a)
	if text == "" || text[0] == '0' && len(a) > 1 {
		return false
	}
	for i := range len(text) {
		if text[i] < '0' || text[i] > '9' {
			return false
		}
	}
	return true
}

func isLong(a api.Int) bool {
	return len(digits(a)) > api.MaxLong
}

func isNegative(a api.Int) bool {
	return strings.HasPrefix(string(a), "-")
}

// digits returns the notation without the sign.
func digits(a api.Int) string {
	return strings.TrimPrefix(string(a), "-")
}

// checkBoth returns the first error of two integers.
func checkBoth(a, b api.Int) api.Errno {
	if e := Check(a); e != api.OK {
		return e
	}
	return Check(b)
}

// Compare returns -1, 0 or 1 if a is less than, equal to, or greater than b.
func Compare(a, b api.Int) (int, api.Errno) {
	if e := checkBoth(a, b); e != api.OK {
		return 0, e
	}
	return order(a, b), api.OK
}

// order compares canonical integers.
func order(a, b api.Int) int {
	switch {
	case isNegative(a) && isNegative(b):
		return orderDigits(digits(b), digits(a))
	case isNegative(a):
		return -1
	case isNegative(b):
		return 1
	}
	return orderDigits(digits(a), digits(b))
}

// orderDigits compares numbers without leading zeros: the one with more digits is greater.
func orderDigits(a, b string) int {
	switch {
	case len(a) < len(b):
		return -1
	case len(a) > len(b):
		return 1
	}
	return strings.Compare(a, b)
}

// Sign returns -1, 0 or 1 if a is negative, 0 or positive.
func Sign(a api.Int) (int, api.Errno) {
	return Compare(a, "0")
}

// Min returns the lesser one of two integers.
func Min(a, b api.Int) (api.Int, api.Errno) {
	c, e := Compare(a, b)
	switch {
	case e != api.OK:
		return "", e
	case c < 0:
		return a, api.OK
	}
	return b, api.OK
}

// Max returns the greater one of two integers.
func Max(a, b api.Int) (api.Int, api.Errno) {
	c, e := Compare(a, b)
	switch {
	case e != api.OK:
		return "", e
	case c > 0:
		return a, api.OK
	}
	return b, api.OK
}

// Neg returns the negation.
func Neg(a api.Int) (api.Int, api.Errno) {
	switch e := Check(a); {
	case e != api.OK:
		return "", e
	case a == "0":
		return a, api.OK
	case isNegative(a):
		return api.Int(digits(a)), api.OK
	}
	return "-" + a, api.OK
}

// Abs returns the magnitude.
func Abs(a api.Int) (api.Int, api.Errno) {
	if e := Check(a); e != api.OK {
		return "", e
	}
	return api.Int(digits(a)), api.OK
}

// Add returns the sum.
func Add(a, b api.Int) (api.Int, api.Errno) {
	return compute(operation{func(x, y int64) int64 { return x + y }, sum}, a, b)
}

// Sub returns the difference.
func Sub(a, b api.Int) (api.Int, api.Errno) {
	return compute(operation{func(x, y int64) int64 { return x - y }, difference}, a, b)
}

// Mul returns the product.
func Mul(a, b api.Int) (api.Int, api.Errno) {
	return compute(operation{func(x, y int64) int64 { return x * y }, product}, a, b)
}

// Quo returns the quotient, rounded down.
func Quo(a, b api.Int) (api.Int, api.Errno) {
	return divide(operation{shortQuotient, quotient}, a, b)
}

// Rem returns the remainder that Quo leaves; it has the sign of b.
func Rem(a, b api.Int) (api.Int, api.Errno) {
	return divide(operation{shortRemainder, remainder}, a, b)
}

// Gcd returns the greatest common divisor, which is not negative.
func Gcd(a, b api.Int) (api.Int, api.Errno) {
	return compute(operation{shortDivisor, commonDivisor}, a, b)
}

// Lcm returns the least common multiple, which is not negative.
func Lcm(a, b api.Int) (api.Int, api.Errno) {
	divisor, e := Gcd(a, b)
	if e != api.OK || divisor == "0" {
		return divisor, e
	}
	part, _ := Quo(a, divisor)
	multiple, e := Mul(part, b)
	if e != api.OK {
		return "", e
	}
	return Abs(multiple)
}

// Bezout returns the greatest common divisor g, and coefficients x and y with a x + b y = g.
func Bezout(a, b api.Int) (api.Int, api.Int, api.Int, api.Errno) {
	if e := checkBoth(a, b); e != api.OK {
		return "", "", "", e
	}
	g, x, y := bezout(parse(a), parse(b))
	return g.text(), x.text(), y.text(), api.OK
}

// Pow returns a to the power n. On the way to it there are only powers with lesser exponents: if one of them is too long, so is the result.
func Pow(a api.Int, n int) (api.Int, api.Errno) {
	if e := Check(a); e != api.OK {
		return "", e
	}
	if n < 0 || n > api.MaxNumber {
		return "", api.ErrRange
	}
	power, e := api.Int("1"), api.OK
	for i := bits.Len(uint(n)) - 1; i >= 0 && e == api.OK; i-- {
		power, e = Mul(power, power)
		if e == api.OK && n>>i&1 == 1 {
			power, e = Mul(power, a)
		}
	}
	return power, e
}

// Of returns the integer of an int.
func Of(n int) api.Int {
	return api.Int(strconv.Itoa(n))
}

// Small returns the int of an integer with a magnitude of at most api.MaxNumber.
func Small(a api.Int) (int, api.Errno) {
	if e := Check(a); e != api.OK {
		return 0, e
	}
	if orderDigits(digits(a), strconv.Itoa(api.MaxNumber)) > 0 {
		return 0, api.ErrRange
	}
	n, _ := strconv.Atoi(string(a))
	return n, api.OK
}
