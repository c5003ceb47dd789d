package expr

import (
	"iter"

	"surveyor/api"
	"surveyor/tree"
)

// preorder yields the nodes of an expression, each one before its operands, with their depths.
func preorder(e api.Expr) iter.Seq2[api.Expr, int] {
	return tree.Preorder([]api.Expr{e}, operands)
}

func operands(e api.Expr) []api.Expr {
	return e.Args
}

// postorder yields the nodes of a well-formed expression, each one behind its operands.
func postorder(e api.Expr) iter.Seq[api.Expr] {
	return func(yield func(api.Expr) bool) {
		yieldBehind(e, yield)
	}
}

// yieldBehind reports whether nodes are still wanted.
func yieldBehind(e api.Expr, yield func(api.Expr) bool) bool {
	for _, operand := range e.Args {
		if !yieldBehind(operand, yield) {
			return false
		}
	}
	return yield(e)
}

// walk returns what a visitor makes of a well-formed expression. The function that walks gives itself to the visitor, which calls it for the nodes below, as far as it needs them.
func walk[T any](e api.Expr, visit func(node api.Expr, below func(api.Expr) T) T) T {
	var step func(api.Expr) T
	step = func(node api.Expr) T {
		return visit(node, step)
	}
	return step(e)
}

// rewritten returns the node with what a function makes of its operands in their places, in new memory.
func rewritten(node api.Expr, below func(api.Expr) api.Expr) api.Expr {
	node.Args = mapped(node.Args, below)
	return node
}

func clone(e api.Expr) api.Expr {
	return walk(e, rewritten)
}

// mapped returns the results of a function for all elements of a list.
func mapped[A, B any](list []A, function func(A) B) []B {
	var results []B
	for _, x := range list {
		results = append(results, function(x))
	}
	return results
}
