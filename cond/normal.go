package cond

import (
	"slices"

	"surveyor/api"
	"surveyor/bigint"
	"surveyor/expr"
	"surveyor/fact"
	"surveyor/linear"
)

// Facts returns facts that hold where the condition is true.
func Facts(c api.Cond, n int) ([]api.Fact, api.Errno) {
	if fault := Check(c, n); fault != api.OK {
		return nil, fault
	}
	var list []api.Fact
	for part := range conjuncts(positive(c, false)) {
		list = append(list, factsOf(part, n)...)
	}
	return fact.Conjoin(list, n)
}

// factsOf returns the fact of a part of a negation normal form, if it has one.
func factsOf(c api.Cond, n int) []api.Fact {
	switch c.Op {
	case api.CondFalse:
		f, _ := fact.False(n)
		return []api.Fact{f}
	case api.CondEq:
		return difference(api.FactEq, c.Exprs[0], c.Exprs[1], "0", n)
	case api.CondLt:
		return difference(api.FactGe, c.Exprs[1], c.Exprs[0], "1", n)
	case api.CondLe:
		return difference(api.FactGe, c.Exprs[1], c.Exprs[0], "0", n)
	}
	return nil
}

// difference returns the fact about a - b - less, if there is one. Only the numbers of the fact have to be short, not those on the way to them, so linear cannot subtract.
func difference(op int, a, b api.Expr, less api.Int, n int) []api.Fact {
	x, isLinear := integersOf(a, n)
	y, isAlsoLinear := integersOf(b, n)
	if !isLinear || !isAlsoLinear {
		return nil
	}
	for i := range x {
		x[i] = minus(x[i], y[i])
	}
	f := api.Fact{Op: op, Coef: x[:n], Const: minus(x[n], less), Mod: "0"}
	if fact.Check(f, n) != api.OK {
		return nil
	}
	return []api.Fact{f}
}

// integersOf returns the coefficients of the linear form of an expression, and the constant behind them, if there is one. Linear forms of expressions have integers only.
func integersOf(e api.Expr, n int) ([]api.Int, bool) {
	l, isLinear, _ := expr.Linear(e, n)
	coef, constant, _, _ := linear.Integral(l)
	return append(coef, constant), isLinear
}

// minus returns the difference of integers that are far from the limit of bigint.
func minus(a, b api.Int) api.Int {
	d, _ := bigint.Sub(a, b)
	return d
}

// Normal returns the disjunctive normal form.
func Normal(c api.Cond, n int) ([][]api.Cond, api.Errno) {
	if fault := Check(c, n); fault != api.OK {
		return nil, fault
	}
	list, isWithin := clauses(positive(c, false))
	if !isWithin {
		return nil, api.ErrLimit
	}
	for i, clause := range list {
		list[i] = nil
		for _, comparison := range clause {
			list[i] = append(list[i], clone(comparison))
		}
	}
	return list, api.OK
}

// clauses returns the disjunctive normal form of a negation normal form, in shared memory, unless that of a part has too many lists.
func clauses(c api.Cond) ([][]api.Cond, bool) {
	switch c.Op {
	case api.CondTrue:
		return [][]api.Cond{nil}, true
	case api.CondFalse:
		return nil, true
	case api.CondNe:
		a, b := c.Exprs[0], c.Exprs[1]
		return [][]api.Cond{{less(a, b)}, {less(b, a)}}, true
	case api.CondAnd, api.CondOr:
		return joined(c)
	}
	return [][]api.Cond{{c}}, true
}

func less(a, b api.Expr) api.Cond {
	return api.Cond{Op: api.CondLt, Exprs: []api.Expr{a, b}}
}

// joined returns the lists of a CondAnd or CondOr. No part is skipped, even if it contributes nothing, as it may have too many lists.
func joined(c api.Cond) ([][]api.Cond, bool) {
	left, isLeftWithin := clauses(c.Args[0])
	right, isRightWithin := clauses(c.Args[1])
	if !isLeftWithin || !isRightWithin {
		return nil, false
	}
	list := slices.Concat(left, right)
	if c.Op == api.CondAnd {
		list = products(left, right)
	}
	return list, len(list) <= api.MaxClauses
}

// products returns all concatenations of a list of the first with one of the second, the first ones of the first before others.
func products(left, right [][]api.Cond) [][]api.Cond {
	var list [][]api.Cond
	for _, a := range left {
		for _, b := range right {
			list = append(list, slices.Concat(a, b))
		}
	}
	return list
}
