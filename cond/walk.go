package cond

import (
	"iter"

	"surveyor/api"
	"surveyor/tree"
)

// parts yields the nodes of a condition that are conditions, each one before its operands, with their depths.
func parts(c api.Cond) iter.Seq2[api.Cond, int] {
	return tree.Preorder([]api.Cond{c}, operands)
}

func operands(c api.Cond) []api.Cond {
	return c.Args
}

// expressions yields the expressions of all comparisons, from left to right.
func expressions(c api.Cond) iter.Seq[api.Expr] {
	return func(yield func(api.Expr) bool) {
		for part := range parts(c) {
			for _, e := range part.Exprs {
				if !yield(e) {
					return
				}
			}
		}
	}
}

// conjuncts yields the parts that are below no CondOr, with their depths.
func conjuncts(c api.Cond) iter.Seq2[api.Cond, int] {
	return tree.Preorder([]api.Cond{c}, func(part api.Cond) []api.Cond {
		if part.Op == api.CondAnd {
			return part.Args
		}
		return nil
	})
}

// transformed returns a well-formed condition with what a function makes of its comparisons in their places, in new memory.
func transformed(c api.Cond, comparison func(api.Cond) api.Cond) api.Cond {
	if operations[c.Op].exprs > 0 {
		return comparison(c)
	}
	result := api.Cond{Op: c.Op}
	for _, operand := range c.Args {
		result.Args = append(result.Args, transformed(operand, comparison))
	}
	return result
}

// clone returns a node without its operands, in new memory.
func clone(part api.Cond) api.Cond {
	return replaced(part, unchanged)
}

func unchanged(e api.Expr) api.Expr {
	return e
}

// replaced returns a node without its operands, with what a function makes of variables and numbers in their places.
func replaced(part api.Cond, leaf func(api.Expr) api.Expr) api.Cond {
	return api.Cond{Op: part.Op, Exprs: rebuilt(part.Exprs, leaf)}
}

// rebuilt returns well-formed expressions with what a function makes of their nodes without operands in their places.
func rebuilt(list []api.Expr, leaf func(api.Expr) api.Expr) []api.Expr {
	var results []api.Expr
	for _, e := range list {
		if len(e.Args) == 0 {
			e = leaf(e)
		} else {
			e.Args = rebuilt(e.Args, leaf)
		}
		results = append(results, e)
	}
	return results
}
