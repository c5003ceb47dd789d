package congruence

import (
	"surveyor/api"
	"surveyor/bigint"
	"surveyor/number"
)

// What is computed here is far from api.MaxLong digits, or shorter than an argument: there are no errors.

func add(a, b api.Int) api.Int { return number.Sure(bigint.Add(a, b)) }
func sub(a, b api.Int) api.Int { return number.Sure(bigint.Sub(a, b)) }
func mul(a, b api.Int) api.Int { return number.Sure(bigint.Mul(a, b)) }
func quo(a, b api.Int) api.Int { return number.Sure(bigint.Quo(a, b)) }
func rem(a, b api.Int) api.Int { return number.Sure(bigint.Rem(a, b)) }

// gcd returns the greatest number that divides all of some integers.
func gcd(list ...api.Int) api.Int {
	divisor := api.Int("0")
	for _, a := range list {
		divisor = number.Sure(bigint.Gcd(divisor, a))
	}
	return divisor
}

// nothing returns the empty class.
func nothing() api.Congruence {
	return api.Congruence{Empty: true}
}

// single returns the class of one integer.
func single(a api.Int) api.Congruence {
	return api.Congruence{Mod: "0", Rem: a}
}

// isSingle reports whether a class that is not empty has one integer alone.
func isSingle(c api.Congruence) bool {
	return c.Mod == "0"
}

// classOf returns the class of r plus all multiples of m, where both can have any sign and number of digits.
func classOf(m, r api.Int) api.Congruence {
	if m == "0" {
		return single(r)
	}
	m = number.Sure(bigint.Abs(m))
	return api.Congruence{Mod: m, Rem: rem(r, m)}
}

// clip returns a class, or that of all integers if it has a number of too many digits.
func clip(c api.Congruence) api.Congruence {
	if number.IsLong(c.Mod) || number.IsLong(c.Rem) {
		return Top()
	}
	return c
}

// holds reports whether an integer is in a class. (Differences may have too many digits, remainders have not.)
func holds(c api.Congruence, a api.Int) bool {
	switch {
	case c.Empty:
		return false
	case isSingle(c):
		return a == c.Rem
	}
	return rem(a, c.Mod) == c.Rem
}

// isWithin reports whether all integers of c are in d: one of them, and those that are the Mod of c apart.
func isWithin(c, d api.Congruence) bool {
	switch {
	case c.Empty:
		return true
	case d.Empty || !holds(d, c.Rem):
		return false
	case isSingle(d):
		return isSingle(c)
	}
	return rem(c.Mod, d.Mod) == "0"
}
