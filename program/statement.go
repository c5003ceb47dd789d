package program

import (
	"slices"

	"surveyor/api"
	"surveyor/cond"
	"surveyor/expr"
)

// Fields of statements, as a mask.
const (
	fieldVar = 1 << iota
	fieldArray
	fieldProc
	fieldIndex
	fieldExpr
	fieldCond
	fieldArgs
	fieldResults
	fieldBody
	fieldElse
)

// used has the fields that each operation uses.
var used = [...]int{
	api.StmtAssign: fieldVar | fieldExpr,
	api.StmtInput:  fieldVar,
	api.StmtLoad:   fieldVar | fieldArray | fieldIndex,
	api.StmtStore:  fieldArray | fieldIndex | fieldExpr,
	api.StmtIf:     fieldCond | fieldBody | fieldElse,
	api.StmtWhile:  fieldCond | fieldBody,
	api.StmtAssert: fieldCond,
	api.StmtAssume: fieldCond,
	api.StmtCall:   fieldProc | fieldArgs | fieldResults,
}

// uses reports whether an operation uses a field.
func uses(op, field int) bool {
	return used[op]&field != 0
}

// filled returns the fields of a statement that are not zero.
func filled(s api.Stmt) int {
	mask := 0
	for _, f := range [...]struct {
		field  int
		isZero bool
	}{
		{fieldVar, s.Var == 0},
		{fieldArray, s.Array == 0},
		{fieldProc, s.Proc == 0},
		{fieldIndex, expr.Same(s.Index, api.Expr{})},
		{fieldExpr, expr.Same(s.Expr, api.Expr{})},
		{fieldCond, cond.Same(s.Cond, api.Cond{})},
		{fieldArgs, len(s.Args) == 0},
		{fieldResults, len(s.Results) == 0},
		{fieldBody, len(s.Body) == 0},
		{fieldElse, len(s.Else) == 0},
	} {
		if !f.isZero {
			mask |= f.field
		}
	}
	return mask
}

// statement returns the error of a statement alone.
func (c checker) statement(s api.Stmt) api.Errno {
	switch {
	case s.Op < 0 || s.Op >= len(used):
		return api.ErrArg
	case s.At < 0 || s.At > api.MaxText:
		return api.ErrRange
	case filled(s)&^used[s.Op] != 0:
		return api.ErrForm
	}
	if uses(s.Op, fieldVar) {
		if fault := c.target(s.Var); fault != api.OK {
			return fault
		}
	}
	if uses(s.Op, fieldArray) && (s.Array < 0 || s.Array >= len(c.proc.Arrays)) {
		return api.ErrNone
	}
	if fault := c.operands(s); fault != api.OK {
		return fault
	}
	if s.Op == api.StmtCall {
		return c.call(s)
	}
	return api.OK
}

// target returns the error of a variable that is assigned.
func (c checker) target(v int) api.Errno {
	switch {
	case v < 0 || v >= len(c.proc.Vars):
		return api.ErrNone
	case v < c.proc.Params:
		return api.ErrUse
	}
	return api.OK
}

// operands returns the error of the expressions and the condition of a statement.
func (c checker) operands(s api.Stmt) api.Errno {
	n := len(c.proc.Vars)
	for _, e := range expressions(s) {
		if fault := expr.Check(e, n); fault != api.OK {
			return fault
		}
	}
	if uses(s.Op, fieldCond) {
		return cond.Check(s.Cond, n)
	}
	return api.OK
}

// expressions returns Index and Expr, if they are used.
func expressions(s api.Stmt) []api.Expr {
	var list []api.Expr
	if uses(s.Op, fieldIndex) {
		list = append(list, s.Index)
	}
	if uses(s.Op, fieldExpr) {
		list = append(list, s.Expr)
	}
	return list
}

// call returns the error of a call. The procedure that is called may have errors of its own, but it has numbers of parameters and results.
func (c checker) call(s api.Stmt) api.Errno {
	if s.Proc < 0 || s.Proc >= len(c.procs) {
		return api.ErrNone
	}
	called := c.procs[s.Proc]
	if len(s.Args) != called.Params {
		return api.ErrShape
	}
	for _, e := range s.Args {
		if fault := expr.Check(e, len(c.proc.Vars)); fault != api.OK {
			return fault
		}
	}
	if len(s.Results) != called.Results {
		return api.ErrShape
	}
	for i, v := range s.Results {
		if fault := c.target(v); fault != api.OK {
			return fault
		}
		if slices.Contains(s.Results[:i], v) {
			return api.ErrTwice
		}
	}
	return api.OK
}

// divisors returns what has to be different from 0 for a statement, in the order in which it is evaluated.
func divisors(s api.Stmt, n int) []api.Expr {
	var list []api.Expr
	for _, e := range expressions(s) {
		list = appendDivisors(list, e, n)
	}
	if uses(s.Op, fieldCond) {
		below, _ := cond.Divisors(s.Cond, n)
		list = append(list, below...)
	}
	for _, e := range s.Args {
		list = appendDivisors(list, e, n)
	}
	return list
}

func appendDivisors(list []api.Expr, e api.Expr, n int) []api.Expr {
	below, _ := expr.Divisors(e, n)
	return append(list, below...)
}
