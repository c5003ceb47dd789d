// Package operands is a helper of the layers that have statements and commands: what both work on.
package operands

import (
	"slices"

	"surveyor/api"
	"surveyor/cond"
	"surveyor/expr"
)

// Fields of operands, as a mask.
const (
	Var = 1 << iota
	Array
	Proc
	Index
	Expr
	Cond
	Args
	Results
)

// Operands are the fields that statements and commands have in common, but for their operation and their place.
type Operands struct {
	Var     int
	Array   int
	Proc    int
	Index   api.Expr
	Expr    api.Expr
	Cond    api.Cond
	Args    []api.Expr
	Results []int
}

// OfStatement returns the operands of a statement, in shared memory.
func OfStatement(s api.Stmt) Operands {
	return Operands{s.Var, s.Array, s.Proc, s.Index, s.Expr, s.Cond, s.Args, s.Results}
}

// OfCommand returns the operands of a command, in shared memory.
func OfCommand(c api.Command) Operands {
	return Operands{c.Var, c.Array, c.Proc, c.Index, c.Expr, c.Cond, c.Args, c.Results}
}

// Command returns a command with these operands, in shared memory.
func (o Operands) Command(op, at int) api.Command {
	return api.Command{Op: op, At: at, Var: o.Var, Array: o.Array, Proc: o.Proc, Index: o.Index, Expr: o.Expr, Cond: o.Cond, Args: o.Args, Results: o.Results}
}

// Divisors returns what has to be different from 0, in the order in which it is evaluated, in a procedure of n variables. Fields that are not used have no divisors: a zero expression is not well-formed, and a zero condition has no expressions.
func (o Operands) Divisors(n int) []api.Expr {
	list := divisors([]api.Expr{o.Index, o.Expr}, n)
	below, _ := cond.Divisors(o.Cond, n)
	return slices.Concat(list, below, divisors(o.Args, n))
}

func divisors(exprs []api.Expr, n int) []api.Expr {
	var list []api.Expr
	for _, e := range exprs {
		below, _ := expr.Divisors(e, n)
		list = append(list, below...)
	}
	return list
}

// Same reports whether operands are equal, for all operands.
func Same(a, b Operands) bool {
	return a.Var == b.Var && a.Array == b.Array && a.Proc == b.Proc &&
		expr.Same(a.Index, b.Index) && expr.Same(a.Expr, b.Expr) && cond.Same(a.Cond, b.Cond) &&
		slices.EqualFunc(a.Args, b.Args, expr.Same) && slices.Equal(a.Results, b.Results)
}

// Clone returns well-formed operands in new memory.
func (o Operands) Clone() Operands {
	o.Index, o.Expr, o.Cond = CloneExpr(o.Index), CloneExpr(o.Expr), CloneCond(o.Cond)
	o.Args, o.Results = cloneExprs(o.Args), slices.Clone(o.Results)
	return o
}

// CloneExpr returns a well-formed expression in new memory.
func CloneExpr(e api.Expr) api.Expr {
	e.Args = cloneExprs(e.Args)
	return e
}

func cloneExprs(list []api.Expr) []api.Expr {
	var results []api.Expr
	for _, e := range list {
		results = append(results, CloneExpr(e))
	}
	return results
}

// CloneCond returns a well-formed condition in new memory.
func CloneCond(c api.Cond) api.Cond {
	result := api.Cond{Op: c.Op, Exprs: cloneExprs(c.Exprs)}
	for _, operand := range c.Args {
		result.Args = append(result.Args, CloneCond(operand))
	}
	return result
}
