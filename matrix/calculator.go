package matrix

import (
	"surveyor/api"
	"surveyor/bigint"
	"surveyor/rational"
)

// The signs of integers.
const (
	negative = iota - 1
	zero
	positive
)

// signOf returns the sign of a canonical integer.
func signOf(x api.Int) int {
	sign, _ := bigint.Sign(x)
	return sign
}

// calculator computes with integers and keeps the first error. Behind it all results are 0, so that a computation needs to ask for the error at its end only.
type calculator struct {
	e api.Errno
}

// finished returns the result of a computation, or its error.
func finished[T any](c *calculator, result T) (T, api.Errno) {
	if c.e != api.OK {
		return *new(T), c.e
	}
	return result, api.OK
}

func (c *calculator) keep(x api.Int, e api.Errno) api.Int {
	if c.e == api.OK {
		c.e = e
	}
	if c.e != api.OK {
		return "0"
	}
	return x
}

func (c *calculator) plus(x, y api.Int) api.Int {
	switch {
	case x == "0":
		return y
	case y == "0":
		return x
	}
	return c.keep(bigint.Add(x, y))
}

func (c *calculator) minus(x, y api.Int) api.Int {
	if y == "0" {
		return x
	}
	return c.keep(bigint.Sub(x, y))
}

func (c *calculator) times(x, y api.Int) api.Int {
	switch {
	case x == "0" || y == "0":
		return "0"
	case x == "1":
		return y
	case y == "1":
		return x
	}
	return c.keep(bigint.Mul(x, y))
}

// over returns the quotient, rounded down.
func (c *calculator) over(x, y api.Int) api.Int {
	if x == "0" || y == "1" {
		return x
	}
	return c.keep(bigint.Quo(x, y))
}

func (c *calculator) modulo(x, y api.Int) api.Int {
	if x == "0" {
		return x
	}
	return c.keep(bigint.Rem(x, y))
}

func (c *calculator) divisor(x, y api.Int) api.Int {
	return c.keep(bigint.Gcd(x, y))
}

func (c *calculator) multiple(x, y api.Int) api.Int {
	return c.keep(bigint.Lcm(x, y))
}

// quotient returns the rational number x / y.
func (c *calculator) quotient(x, y api.Int) api.Rat {
	result, e := rational.Of(x, y)
	c.keep("0", e)
	if c.e != api.OK {
		return "0"
	}
	return result
}

func (c *calculator) quotients(row []api.Int, y api.Int) []api.Rat {
	return mapped(row, func(x api.Int) api.Rat { return c.quotient(x, y) })
}

// vector is a list of rational numbers: integers over a common denominator, which is positive.
type vector struct {
	num []api.Int
	den api.Int
}

func (c *calculator) vector(list []api.Rat) vector {
	common := api.Int("1")
	for _, x := range list {
		common = c.multiple(common, denominator(x))
	}
	num := mapped(list, func(x api.Rat) api.Int {
		return c.times(numerator(x), c.over(common, denominator(x)))
	})
	return vector{num, common}
}

func numerator(x api.Rat) api.Int {
	num, _ := rational.Num(x)
	return num
}

func denominator(x api.Rat) api.Int {
	den, _ := rational.Den(x)
	return den
}

// dot returns the sum of the products of the elements of two vectors.
func (c *calculator) dot(a, b vector) api.Rat {
	sum := api.Int("0")
	for i, x := range a.num {
		sum = c.plus(sum, c.times(x, b.num[i]))
	}
	return c.quotient(sum, c.times(a.den, b.den))
}
