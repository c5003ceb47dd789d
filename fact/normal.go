package fact

import (
	"slices"

	"surveyor/api"
	"surveyor/rational"
)

// removed is in place of a variable that a renamed fact has no more.
const removed = -1

// falsehood returns the false fact over n variables.
func falsehood(n int) api.Fact {
	return api.Fact{Op: api.FactGe, Coef: slices.Repeat([]api.Int{"0"}, n), Const: "-1", Mod: "0"}
}

// isFalse reports whether a normal fact is the false fact, which is the only one of them without terms.
func isFalse(f api.Fact) bool {
	for range terms(f) {
		return false
	}
	return true
}

func isNormal(f api.Fact) bool {
	l := normal(f)
	return len(l) == 1 && order(l[0], f) == 0
}

// holds reports whether a fact holds at a point.
func holds(f api.Fact, point []api.Int) bool {
	sum := f.Const
	for i, c := range terms(f) {
		sum = plus(sum, times(c, point[i]))
	}
	return allows(f, sum)
}

// allows reports whether a fact holds where its expression has the value x.
func allows(f api.Fact, x api.Int) bool {
	switch f.Op {
	case api.FactGe:
		return compare(x, "0") >= 0
	case api.FactEq:
		return x == "0"
	}
	return modulo(x, f.Mod) == "0"
}

// normal returns the normal form of a fact, whose numbers need not be short.
func normal(f api.Fact) []api.Fact {
	if f.Op == api.FactMod {
		return normalMod(f)
	}
	g := divisor("0", f)
	switch {
	case g == "0" && allows(f, f.Const):
		return nil
	case g == "0" || f.Op == api.FactEq && modulo(f.Const, g) != "0":
		return []api.Fact{falsehood(len(f.Coef))}
	case f.Op == api.FactEq && isFirstNegative(f):
		g = negative(g)
	}
	return []api.Fact{divided(f, g)}
}

// normalMod returns the normal form of a congruence.
func normalMod(f api.Fact) []api.Fact {
	rest := func(x api.Int) api.Int { return modulo(x, f.Mod) }
	f.Coef, f.Const = mapped(f.Coef, rest), rest(f.Const)
	g := divisor(f.Mod, f)
	switch {
	case modulo(f.Const, g) != "0":
		return []api.Fact{falsehood(len(f.Coef))}
	case g == f.Mod:
		return nil
	}
	return []api.Fact{divided(f, g)}
}

func isFirstNegative(f api.Fact) bool {
	for _, c := range terms(f) {
		return compare(c, "0") < 0
	}
	return false
}

// divided returns a fact with all numbers divided by a common divisor of its coefficients and its modulus. A constant that is no multiple of it is rounded down.
func divided(f api.Fact, g api.Int) api.Fact {
	return withNumbers(f, func(x api.Int) api.Int { return over(x, g) })
}

// withNumbers returns a fact with the results of a function in place of its numbers.
func withNumbers(f api.Fact, function func(x api.Int) api.Int) api.Fact {
	return api.Fact{Op: f.Op, Coef: mapped(f.Coef, function), Const: function(f.Const), Mod: function(f.Mod)}
}

// opposite returns a fact with the opposite expression.
func opposite(f api.Fact) api.Fact {
	return withNumbers(f, negative)
}

// positive returns the fact that the expression of a fact is greater than 0.
func positive(f api.Fact) api.Fact {
	return api.Fact{Op: api.FactGe, Coef: f.Coef, Const: plus(f.Const, "-1"), Mod: "0"}
}

// substituted returns a fact with an expression in place of variable i, multiplied so that it has integers.
func substituted(f api.Fact, i int, by api.Linear) api.Fact {
	n := len(f.Coef)
	list := mapped(append(f.Coef[:n:n], f.Const), func(x api.Int) api.Rat { return api.Rat(x) })
	list[i] = "0"
	for k, x := range append(by.Coef[:n:n], by.Const) {
		list[k] = value(rational.Add(list[k], value(rational.Mul(api.Rat(f.Coef[i]), x))))
	}
	numbers, factor := whole(list)
	return api.Fact{Op: f.Op, Coef: numbers[:n:n], Const: numbers[n], Mod: times(f.Mod, factor)}
}

// renamed returns a fact over n variables with variable to[i] in place of variable i.
func renamed(f api.Fact, to []int, n int) api.Fact {
	result := api.Fact{Op: f.Op, Coef: slices.Repeat([]api.Int{"0"}, n), Const: f.Const, Mod: f.Mod}
	for i, c := range terms(f) {
		result.Coef[to[i]] = plus(result.Coef[to[i]], c)
	}
	return result
}
