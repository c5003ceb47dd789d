package cuts

import (
	"slices"

	"surveyor/api"
	"surveyor/integer"
)

// maxDigits is the greatest number of digits of a common denominator. Only that of multipliers with more than api.MaxDigits digits can have more.
const maxDigits = api.MaxPieces * api.MaxDigits

// step is a step of a proof, with the multipliers of its terms and with their sum: a number for each variable, and one for the constant, as for a further variable that is 1. All of them are integers over a common denominator, which is positive.
type step struct {
	api.Cut
	facts []api.Fact
	mult  []integer.Number
	sum   map[int]integer.Number
	den   integer.Number
}

// newStep returns a step, whose arguments have no error, and ErrLarge if the common denominator has too many digits.
func newStep(facts []api.Fact, c api.Cut) (step, api.Errno) {
	s := step{Cut: c, facts: facts, sum: map[int]integer.Number{}, den: integer.Of(1)}
	for _, t := range c.Terms {
		_, den := integer.Fraction(t.Mult)
		s.den = integer.Lcm(s.den, den)
		if s.den.Digits() > maxDigits {
			return step{}, api.ErrLarge
		}
	}
	for _, t := range c.Terms {
		num, den := integer.Fraction(t.Mult)
		mult := integer.Mul(num, integer.Divide(s.den, den))
		s.mult = append(s.mult, mult)
		for i, x := range numbers(facts[t.Fact]) {
			s.sum[i] = integer.Add(s.sum[i], integer.Mul(mult, x))
		}
	}
	return s, api.OK
}

// numbers returns the coefficients of a fact, and behind them its constant.
func numbers(f api.Fact) []integer.Number {
	return append(mapped(f.Coef, integer.Parse), integer.Parse(f.Const))
}

// isRight reports whether one of the rules holds for a step. Only the first one rounds by another fact.
func (s step) isRight() bool {
	unrounded := func(rule func() bool) func() bool {
		return func() bool { return s.Round == none && rule() }
	}
	rules := []func() bool{s.isBound, unrounded(s.isEquation), unrounded(s.areBothBounds), unrounded(s.isCongruence), unrounded(s.isFromFalsehood)}
	return slices.ContainsFunc(rules, func(rule func() bool) bool { return rule() })
}

// areAll reports whether a test holds for all facts of the terms and their multipliers.
func (s step) areAll(test func(f api.Fact, mult integer.Number) bool) bool {
	for i, t := range s.Terms {
		if !test(s.facts[t.Fact], s.mult[i]) {
			return false
		}
	}
	return true
}

// isSum reports whether the sum has these numbers, beginning with that of the first variable.
func (s step) isSum(list []integer.Number) bool {
	for i, x := range list {
		if integer.Compare(s.sum[i], integer.Mul(x, s.den)) != 0 {
			return false
		}
	}
	return true
}

// isBound is the first rule: a sum that is not negative, and whose part with variables is an integer.
func (s step) isBound() bool {
	n := len(s.Result.Coef)
	return s.Result.Op == api.FactGe && s.areAll(func(f api.Fact, mult integer.Number) bool {
		return f.Op == api.FactEq || f.Op == api.FactGe && mult.Sign() >= 0
	}) && s.isSum(numbers(s.Result)[:n]) && s.isRounded(s.sum[n])
}

// isRounded reports whether the constant of the result is great enough for a sum with a constant.
func (s step) isRounded(constant integer.Number) bool {
	least := integer.Quo(constant, s.den).Neg()
	if s.Round != none {
		g := s.facts[s.Round]
		if !isCongruenceOf(g, s.Result) {
			return false
		}
		least = congruent(least, g)
	}
	return integer.Add(least, integer.Parse(s.Result.Const)).Sign() >= 0
}

// congruent returns the least integer that is at least x, and that the terms of a congruence without its constant can be.
func congruent(x integer.Number, g api.Fact) integer.Number {
	missing := integer.Add(x, integer.Parse(g.Const)).Neg()
	return integer.Add(x, integer.Rem(missing, integer.Parse(g.Mod)))
}

// isEquation is the second rule: a sum of equations.
func (s step) isEquation() bool {
	return s.Result.Op == api.FactEq && s.areAll(func(f api.Fact, _ integer.Number) bool { return f.Op == api.FactEq }) && s.isSum(numbers(s.Result))
}

// areBothBounds is the third rule: an expression that is neither negative nor positive.
func (s step) areBothBounds() bool {
	zeros := make([]integer.Number, len(s.Result.Coef)+1)
	return s.Result.Op == api.FactEq && len(s.Terms) == 2 && s.Terms[0].Mult == "1" && s.Terms[1].Mult == "1" &&
		s.areAll(func(f api.Fact, _ integer.Number) bool { return f.Op == api.FactGe }) &&
		s.isSum(zeros) && haveSameNumbers(s.Result, s.facts[s.Terms[0].Fact])
}

// isCongruence is the fourth rule: a sum of multiples of equations and congruences by integers.
func (s step) isCongruence() bool {
	if s.Result.Op != api.FactMod || integer.Compare(s.den, integer.Of(1)) != 0 {
		return false
	}
	modulus := integer.Parse(s.Result.Mod)
	isMultiple := func(x integer.Number) bool { return integer.Rem(x, modulus).IsZero() }
	for i, x := range numbers(s.Result) {
		if !isMultiple(integer.Sub(s.sum[i], x)) {
			return false
		}
	}
	return s.areAll(func(f api.Fact, mult integer.Number) bool {
		return f.Op == api.FactEq || f.Op == api.FactMod && isMultiple(integer.Mul(mult, integer.Parse(f.Mod)))
	})
}

// isFromFalsehood is the fifth rule: anything follows from a fact without variables that does not hold.
func (s step) isFromFalsehood() bool {
	return len(s.Terms) == 1 && s.Terms[0].Mult == "1" && isFalsehood(s.facts[s.Terms[0].Fact])
}
