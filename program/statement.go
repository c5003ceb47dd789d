package program

import (
	"surveyor/api"
	"surveyor/operands"
)

// used has the operands that each operation uses.
var used = [...]int{
	api.StmtAssign: operands.Var | operands.Expr,
	api.StmtInput:  operands.Var,
	api.StmtLoad:   operands.Var | operands.Array | operands.Index,
	api.StmtStore:  operands.Array | operands.Index | operands.Expr,
	api.StmtIf:     operands.Cond,
	api.StmtWhile:  operands.Cond,
	api.StmtAssert: operands.Cond,
	api.StmtAssume: operands.Cond,
	api.StmtCall:   operands.Proc | operands.Args | operands.Results,
}

// statement returns the error of a statement alone.
func (c checker) statement(s api.Stmt) api.Errno {
	switch {
	case s.Op < 0 || s.Op >= len(used):
		return api.ErrArg
	case s.At < 0 || s.At > api.MaxText:
		return api.ErrRange
	case len(s.Body) > 0 && s.Op != api.StmtIf && s.Op != api.StmtWhile || len(s.Else) > 0 && s.Op != api.StmtIf:
		return api.ErrForm
	}
	return operands.OfStatement(s).Check(used[s.Op], c.procs, c.proc)
}

// divisors returns what has to be different from 0 for a statement, in the order in which it is evaluated.
func divisors(s api.Stmt, n int) []api.Expr {
	return operands.OfStatement(s).Divisors(n)
}
