package congruence

import (
	"surveyor/api"
	"surveyor/bigint"
	"surveyor/number"
)

// pair has the operations of two classes.
type pair struct{ first, second api.Congruence }

// check returns the first error of both classes.
func (p pair) check() api.Errno {
	if e := Check(p.first); e != api.OK {
		return e
	}
	return Check(p.second)
}

// hasEmpty reports whether one of the classes is empty.
func (p pair) hasEmpty() bool {
	return p.first.Empty || p.second.Empty
}

// clipped returns a function for an operation of the pair: its result for well-formed classes, clipped.
func (p pair) clipped(operation func() api.Congruence) func() (api.Congruence, api.Errno) {
	return func() (api.Congruence, api.Errno) {
		if e := p.check(); e != api.OK {
			return api.Congruence{}, e
		}
		return clip(operation()), api.OK
	}
}

// strict returns a function for an operation of the pair that is empty, if one of the classes is.
func (p pair) strict(operation func() api.Congruence) func() api.Congruence {
	return func() api.Congruence {
		if p.hasEmpty() {
			return nothing()
		}
		return operation()
	}
}

func (p pair) union() api.Congruence {
	switch {
	case p.first.Empty:
		return p.second
	case p.second.Empty:
		return p.first
	}
	return classOf(gcd(p.first.Mod, p.second.Mod, sub(p.first.Rem, p.second.Rem)), p.first.Rem)
}

// intersection is found by the Chinese remainder theorem: with m x + n y = g, the integer r + m x (s - r) / g is in both classes.
func (p pair) intersection() api.Congruence {
	switch {
	case isWithin(p.first, p.second):
		return p.first
	case isWithin(p.second, p.first):
		return p.second
	case isSingle(p.first) || isSingle(p.second):
		return nothing()
	}
	m, n := p.first.Mod, p.second.Mod
	g, x, _, _ := bigint.Bezout(m, n)
	distance := sub(p.second.Rem, p.first.Rem)
	if rem(distance, g) != "0" {
		return nothing()
	}
	common := add(p.first.Rem, mul(mul(m, x), quo(distance, g)))
	return classOf(number.Sure(bigint.Lcm(m, n)), common)
}

func (p pair) sum() api.Congruence {
	return classOf(gcd(p.first.Mod, p.second.Mod), add(p.first.Rem, p.second.Rem))
}

func (p pair) difference() api.Congruence {
	return classOf(gcd(p.first.Mod, p.second.Mod), sub(p.first.Rem, p.second.Rem))
}

func (p pair) product() api.Congruence {
	m, r, n, s := p.first.Mod, p.first.Rem, p.second.Mod, p.second.Rem
	return classOf(gcd(mul(m, n), mul(m, s), mul(n, r)), mul(r, s))
}

func (p pair) quotient() api.Congruence {
	c, b := p.first, p.second.Rem
	switch {
	case !isSingle(p.second) && c == single("0"):
		return c
	case !isSingle(p.second):
		return Top()
	case b == "0":
		return nothing()
	case rem(c.Mod, b) == "0":
		return classOf(quo(c.Mod, b), quo(c.Rem, b))
	}
	return Top()
}

func (p pair) remainder() api.Congruence {
	c, b := p.first, p.second.Rem
	switch {
	case isSingle(p.second) && b == "0":
		return nothing()
	case isSingle(p.second) && rem(c.Mod, b) == "0":
		return single(rem(c.Rem, b))
	}
	return classOf(gcd(c.Mod, p.second.Mod, b), c.Rem)
}
