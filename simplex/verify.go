package simplex

import (
	"slices"

	"surveyor/api"
	"surveyor/integer"
	"surveyor/rational"
)

// checkOptimum returns the first error of a result that does not even have the form of one.
func checkOptimum(n, m int, o api.Optimum) api.Errno {
	var hasShape bool
	switch o.Verdict {
	case api.ProgramOptimal:
		hasShape = haveLengths(o, n, 0, m)
	case api.ProgramUnbounded:
		hasShape = haveLengths(o, n, n, 0) && o.Value == ""
	case api.ProgramInfeasible:
		hasShape = haveLengths(o, 0, 0, m) && o.Value == ""
	default:
		return api.ErrArg
	}
	if !hasShape {
		return api.ErrShape
	}
	return checkRationals(o)
}

func haveLengths(o api.Optimum, point, ray, mult int) bool {
	return len(o.Point) == point && len(o.Ray) == ray && len(o.Mult) == mult
}

func checkRationals(o api.Optimum) api.Errno {
	numbers := slices.Concat(o.Point, o.Ray, o.Mult)
	if o.Value != "" {
		numbers = slices.Insert(numbers, 0, o.Value)
	}
	for _, x := range numbers {
		if e := rational.Check(x); e != api.OK {
			return e
		}
	}
	if o.Verdict == api.ProgramOptimal && o.Value == "" {
		return api.ErrForm
	}
	return api.OK
}

// isRight reports whether a result with the form of one is right.
func isRight(c objective, l []api.Fact, o api.Optimum) bool {
	switch o.Verdict {
	case api.ProgramOptimal:
		return isFeasible(l, o.Point) && hasValue(c, o.Point, o.Value) && isSum(c, l, o.Mult, o.Value)
	case api.ProgramUnbounded:
		return isFeasible(l, o.Point) && isRay(c, l, o.Ray)
	}
	nothing := objective{expression{coef: make([]integer.Number, len(c.coef))}, integer.Of(1)}
	return isSum(nothing, l, o.Mult, "-1")
}

// areSatisfied reports whether the values of the expressions of constraints are as these require.
func areSatisfied(l []api.Fact, value func(x expression) integer.Number) bool {
	for _, f := range l {
		if sign := value(expressionOf(f)).Sign(); sign < 0 || sign > 0 && f.Op == api.FactEq {
			return false
		}
	}
	return true
}

func isFeasible(l []api.Fact, point []api.Rat) bool {
	at := vectorOf(point)
	return areSatisfied(l, func(x expression) integer.Number { return x.at(at) })
}

// isRay reports whether the objective grows along a direction in which all feasible points remain feasible.
func isRay(c objective, l []api.Fact, ray []api.Rat) bool {
	along := vectorOf(ray)
	return c.along(along.num).Sign() > 0 && areSatisfied(l, func(x expression) integer.Number { return x.along(along.num) })
}

func hasValue(c objective, point []api.Rat, value api.Rat) bool {
	at := vectorOf(point)
	num, den := integer.Fraction(value)
	left := integer.Mul(c.at(at), den)
	right := integer.Mul(num, integer.Mul(c.den, at.den))
	return integer.Compare(left, right) == 0
}

// isSum reports whether an objective and the multiples of the constraints have a value as their sum, everywhere, and the multipliers are those that are allowed.
func isSum(c objective, l []api.Fact, mult []api.Rat, value api.Rat) bool {
	factors := vectorOf(mult)
	sum := c.expression.times(factors.den)
	for i, f := range l {
		if f.Op == api.FactGe && factors.num[i].Sign() < 0 {
			return false
		}
		sum = sum.plus(expressionOf(f).times(integer.Mul(factors.num[i], c.den)))
	}
	num, den := integer.Fraction(value)
	left := integer.Mul(sum.constant, den)
	right := integer.Mul(num, integer.Mul(c.den, factors.den))
	return sum.isConstant() && integer.Compare(left, right) == 0
}
