package simplex

import (
	"slices"

	"surveyor/api"
	"surveyor/integer"
	"surveyor/rational"
)

// mapped returns the results of a function for all elements of a list.
func mapped[A, B any](list []A, function func(x A) B) []B {
	results := make([]B, len(list))
	for i, x := range list {
		results[i] = function(x)
	}
	return results
}

// vector is a list of rational numbers: integers over a common denominator, which is positive.
type vector struct {
	num []integer.Number
	den integer.Number
}

// vectorOf returns the vector of canonical numbers. They may have so many digits that packages bigint and rational could not compute with their common denominator.
func vectorOf(list []api.Rat) vector {
	common := integer.Of(1)
	for _, x := range list {
		_, den := integer.Fraction(x)
		common = integer.Lcm(common, den)
	}
	num := mapped(list, func(x api.Rat) integer.Number {
		num, den := integer.Fraction(x)
		return integer.Mul(num, integer.Divide(common, den))
	})
	return vector{num, common}
}

// expression is a linear expression with integers.
type expression struct {
	coef     []integer.Number
	constant integer.Number
}

// expressionOf returns the expression of a constraint.
func expressionOf(f api.Fact) expression {
	return expression{mapped(f.Coef, integer.Parse), integer.Parse(f.Const)}
}

func (x expression) opposite() expression {
	return expression{mapped(x.coef, integer.Number.Neg), x.constant.Neg()}
}

func (x expression) times(factor integer.Number) expression {
	product := func(c integer.Number) integer.Number { return integer.Mul(c, factor) }
	return expression{mapped(x.coef, product), product(x.constant)}
}

func (x expression) plus(y expression) expression {
	sum := expression{make([]integer.Number, len(x.coef)), integer.Add(x.constant, y.constant)}
	for i, c := range x.coef {
		sum.coef[i] = integer.Add(c, y.coef[i])
	}
	return sum
}

// isConstant reports whether an expression has the same value everywhere.
func (x expression) isConstant() bool {
	return !slices.ContainsFunc(x.coef, func(c integer.Number) bool { return !c.IsZero() })
}

// along returns the sum of the products of the coefficients with numbers.
func (x expression) along(list []integer.Number) integer.Number {
	sum := integer.Of(0)
	for i, c := range x.coef {
		sum = integer.Add(sum, integer.Mul(c, list[i]))
	}
	return sum
}

// at returns the value at a point, multiplied by the denominator of the point.
func (x expression) at(point vector) integer.Number {
	return integer.Add(x.along(point.num), integer.Mul(x.constant, point.den))
}

// objective is a linear expression with rational numbers: one with integers over a denominator, which is positive.
type objective struct {
	expression
	den integer.Number
}

func objectiveOf(c api.Linear) objective {
	n := len(c.Coef)
	numbers := vectorOf(append(c.Coef[:n:n], c.Const))
	return objective{expression{numbers.num[:n], numbers.num[n]}, numbers.den}
}

func (x objective) opposite() objective {
	return objective{x.expression.opposite(), x.den}
}

// writer writes rational numbers, and keeps the error of the first one that is too long.
type writer struct {
	e api.Errno
}

func (w *writer) quotient(x, y integer.Number) api.Rat {
	common := integer.Gcd(x, y)
	result, e := rational.Of(integer.Divide(x, common).Text(), integer.Divide(y, common).Text())
	if w.e == api.OK {
		w.e = e
	}
	return result
}

func (w *writer) quotients(list []integer.Number, y integer.Number) []api.Rat {
	return mapped(list, func(x integer.Number) api.Rat { return w.quotient(x, y) })
}
