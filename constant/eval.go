package constant

import (
	"iter"

	"surveyor/api"
	"surveyor/cond"
	"surveyor/expr"
)

// Eval returns the values that an expression can have.
func Eval(e api.Expr, env []Element) (Element, api.Errno) {
	if fault := expr.Check(e, len(env)); fault != api.OK {
		return Element{}, fault
	}
	if fault := checkAll(env...); fault != api.OK {
		return Element{}, fault
	}
	return valuesOf(e, env), api.OK
}

// valuesOf returns the values of a well-formed expression, node by node.
func valuesOf(e api.Expr, env []Element) Element {
	switch e.Op {
	case api.ExprNum:
		return Element{One, e.Num}
	case api.ExprVar:
		return env[e.Var]
	case api.ExprNeg:
		return negation(valuesOf(e.Args[0], env))
	}
	return operations()[e.Op].results(valuesOf(e.Args[0], env), valuesOf(e.Args[1], env))
}

// Decide returns the truths that a condition can have.
func Decide(c api.Cond, env []Element) (int, api.Errno) {
	if fault := cond.Check(c, len(env)); fault != api.OK {
		return 0, fault
	}
	if fault := checkAll(env...); fault != api.OK {
		return 0, fault
	}
	return truthsOf(c, env), api.OK
}

// Truths, as a mask.
const (
	canBeFalse = 1 << iota
	canBeTrue
)

// maskOf returns the mask of a truth.
func maskOf(truth bool) int {
	if truth {
		return canBeTrue
	}
	return canBeFalse
}

// truths yields the truths in a mask.
func truths(mask int) iter.Seq[bool] {
	return func(yield func(bool) bool) {
		for _, truth := range [...]bool{false, true} {
			if mask&maskOf(truth) != 0 && !yield(truth) {
				return
			}
		}
	}
}

// truthsOf returns the truths of a well-formed condition.
func truthsOf(c api.Cond, env []Element) int {
	switch c.Op {
	case api.CondTrue, api.CondFalse:
		return maskOf(c.Op == api.CondTrue)
	case api.CondNot:
		mask := 0
		for truth := range truths(truthsOf(c.Args[0], env)) {
			mask |= maskOf(!truth)
		}
		return mask
	case api.CondAnd:
		return connected(c, env, func(a, b bool) bool { return a && b })
	case api.CondOr:
		return connected(c, env, func(a, b bool) bool { return a || b })
	}
	return compared(c.Op, valuesOf(c.Exprs[0], env), valuesOf(c.Exprs[1], env))
}

// connected returns the truths for all pairs of truths of both operands.
func connected(c api.Cond, env []Element, connect func(a, b bool) bool) int {
	left, right, mask := truthsOf(c.Args[0], env), truthsOf(c.Args[1], env), 0
	for a := range truths(left) {
		for b := range truths(right) {
			mask |= maskOf(connect(a, b))
		}
	}
	return mask
}

// compared returns the truths of a comparison.
func compared(op int, a, b Element) int {
	switch {
	case a.Kind == None || b.Kind == None:
		return 0
	case a.Kind == Any || b.Kind == Any:
		return canBeFalse | canBeTrue
	}
	return maskOf(isTrue(op, a, b))
}
