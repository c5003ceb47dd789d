package cond

import (
	"slices"

	"surveyor/api"
	"surveyor/expr"
)

// Positive returns the negation normal form.
func Positive(c api.Cond, n int) (api.Cond, api.Errno) {
	if fault := Check(c, n); fault != api.OK {
		return api.Cond{}, fault
	}
	return positive(c, false), api.OK
}

// Negate returns the negation normal form of the negation.
func Negate(c api.Cond, n int) (api.Cond, api.Errno) {
	if fault := Check(c, n); fault != api.OK {
		return api.Cond{}, fault
	}
	return positive(c, true), api.OK
}

// positive returns the negation normal form of a condition, or of its negation, in new memory.
func positive(c api.Cond, isNegated bool) api.Cond {
	if c.Op == api.CondNot {
		return positive(c.Args[0], !isNegated)
	}
	result := clone(c)
	for _, operand := range c.Args {
		result.Args = append(result.Args, positive(operand, isNegated))
	}
	if isNegated {
		result.Op = operations[c.Op].negation
		if operations[c.Op].exchanged {
			slices.Reverse(result.Exprs)
		}
	}
	return result
}

// Substitute returns the condition with an expression in place of variable i.
func Substitute(c api.Cond, n, i int, by api.Expr) (api.Cond, api.Errno) {
	if fault := Check(c, n); fault != api.OK {
		return api.Cond{}, fault
	}
	if fault := expr.Check(by, n); fault != api.OK {
		return api.Cond{}, fault
	}
	if i < 0 || i >= n {
		return api.Cond{}, api.ErrNone
	}
	all := make([]api.Expr, n)
	for v := range all {
		all[v] = api.Expr{Op: api.ExprVar, Var: v}
	}
	all[i] = by
	return checked(withValues(c, all), n)
}

// Replace returns the condition over n variables with by[i] in place of each variable i, all at once.
func Replace(c api.Cond, by []api.Expr, n int) (api.Cond, api.Errno) {
	if fault := Check(c, len(by)); fault != api.OK {
		return api.Cond{}, fault
	}
	if !isSize(n) {
		return api.Cond{}, api.ErrRange
	}
	for _, e := range by {
		if fault := expr.Check(e, n); fault != api.OK {
			return api.Cond{}, fault
		}
	}
	return checked(withValues(c, by), n)
}

// withValues returns a condition with expressions in place of its variables. Each occurrence has memory of its own.
func withValues(c api.Cond, by []api.Expr) api.Cond {
	return transformed(c, func(comparison api.Cond) api.Cond {
		return replaced(comparison, func(leaf api.Expr) api.Expr {
			if leaf.Op != api.ExprVar {
				return leaf
			}
			return rebuilt(by[leaf.Var:leaf.Var+1], unchanged)[0]
		})
	})
}

// checked returns a condition, or its error.
func checked(c api.Cond, n int) (api.Cond, api.Errno) {
	if fault := Check(c, n); fault != api.OK {
		return api.Cond{}, fault
	}
	return c, api.OK
}
