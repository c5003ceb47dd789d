// Package rational implements layer 2: exact rational numbers.
package rational

import (
	"surveyor/api"
	"surveyor/bigint"
)

// Check returns OK for rational numbers in canonical notation with at most api.MaxLong digits above and below the line.
func Check(a api.Rat) api.Errno {
	_, e := parse(a)
	return e
}

// Of returns the quotient of two integers.
func Of(num, den api.Int) (api.Rat, api.Errno) {
	divisor, e := bigint.Gcd(num, den)
	switch {
	case e != api.OK:
		return "", e
	case den == "0":
		return "", api.ErrZero
	}
	return reduced(num, den, divisor).text(), api.OK
}

// Num returns the numerator.
func Num(a api.Rat) (api.Int, api.Errno) {
	x, e := parse(a)
	return x.num, e
}

// Den returns the denominator, which is positive.
func Den(a api.Rat) (api.Int, api.Errno) {
	x, e := parse(a)
	return x.den, e
}

// Compare returns -1, 0 or 1 if a is less than, equal to, or greater than b.
func Compare(a, b api.Rat) (int, api.Errno) {
	x, y, e := parseBoth(a, b)
	if e != api.OK {
		return 0, e
	}
	left, right, e := products(x.num, y.den, y.num, x.den)
	if e != api.OK {
		return 0, e
	}
	return bigint.Compare(left, right)
}

// Add returns the sum.
func Add(a, b api.Rat) (api.Rat, api.Errno) {
	return compute('+', a, b)
}

// Sub returns the difference.
func Sub(a, b api.Rat) (api.Rat, api.Errno) {
	return compute('-', a, b)
}

// Mul returns the product.
func Mul(a, b api.Rat) (api.Rat, api.Errno) {
	return compute('*', a, b)
}

// Div returns the quotient.
func Div(a, b api.Rat) (api.Rat, api.Errno) {
	return compute('/', a, b)
}

// Neg returns the number with the opposite sign.
func Neg(a api.Rat) (api.Rat, api.Errno) {
	x, e := parse(a)
	if e != api.OK {
		return "", e
	}
	num, _ := bigint.Neg(x.num)
	return fraction{num, x.den}.text(), api.OK
}

// Floor returns the greatest integer that is at most a.
func Floor(a api.Rat) (api.Int, api.Errno) {
	x, e := parse(a)
	if e != api.OK {
		return "", e
	}
	return bigint.Quo(x.num, x.den)
}

// Ceil returns the least integer that is at least a: the opposite of the greatest one that is at most the opposite of a.
func Ceil(a api.Rat) (api.Int, api.Errno) {
	x, e := parse(a)
	if e != api.OK {
		return "", e
	}
	opposite, _ := bigint.Neg(x.num)
	floor, _ := bigint.Quo(opposite, x.den)
	return bigint.Neg(floor)
}
