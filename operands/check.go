package operands

import (
	"slices"

	"surveyor/api"
	"surveyor/cond"
	"surveyor/expr"
)

// Check returns the error of the operands of a statement or a command of a procedure, one of a list, that uses these fields.
func (o Operands) Check(used int, procs []api.Proc, proc api.Proc) api.Errno {
	if o.filled()&^used != 0 {
		return api.ErrForm
	}
	if used&Var != 0 {
		if fault := checkTarget(o.Var, proc); fault != api.OK {
			return fault
		}
	}
	if used&Array != 0 && (o.Array < 0 || o.Array >= len(proc.Arrays)) {
		return api.ErrNone
	}
	if fault := o.checkValues(used, len(proc.Vars)); fault != api.OK {
		return fault
	}
	if used&Proc != 0 {
		return o.checkCall(procs, proc)
	}
	return api.OK
}

// checkValues returns the error of Index, Expr and Cond, as far as they are used, over n variables.
func (o Operands) checkValues(used, n int) api.Errno {
	if used&Index != 0 {
		if fault := expr.Check(o.Index, n); fault != api.OK {
			return fault
		}
	}
	if used&Expr != 0 {
		if fault := expr.Check(o.Expr, n); fault != api.OK {
			return fault
		}
	}
	if used&Cond != 0 {
		return cond.Check(o.Cond, n)
	}
	return api.OK
}

// filled returns the fields that are not zero.
func (o Operands) filled() int {
	mask := 0
	for _, f := range [...]struct {
		field  int
		isZero bool
	}{
		{Var, o.Var == 0},
		{Array, o.Array == 0},
		{Proc, o.Proc == 0},
		{Index, expr.Same(o.Index, api.Expr{})},
		{Expr, expr.Same(o.Expr, api.Expr{})},
		{Cond, cond.Same(o.Cond, api.Cond{})},
		{Args, len(o.Args) == 0},
		{Results, len(o.Results) == 0},
	} {
		if !f.isZero {
			mask |= f.field
		}
	}
	return mask
}

// checkTarget returns the error of a variable that is assigned.
func checkTarget(v int, proc api.Proc) api.Errno {
	switch {
	case v < 0 || v >= len(proc.Vars):
		return api.ErrNone
	case v < proc.Params:
		return api.ErrUse
	}
	return api.OK
}

// checkCall returns the error of a call. The procedure that is called may have errors of its own, but it has numbers of parameters and results.
func (o Operands) checkCall(procs []api.Proc, proc api.Proc) api.Errno {
	if o.Proc < 0 || o.Proc >= len(procs) {
		return api.ErrNone
	}
	called := procs[o.Proc]
	if len(o.Args) != called.Params {
		return api.ErrShape
	}
	for _, e := range o.Args {
		if fault := expr.Check(e, len(proc.Vars)); fault != api.OK {
			return fault
		}
	}
	if len(o.Results) != called.Results {
		return api.ErrShape
	}
	for i, v := range o.Results {
		if fault := checkTarget(v, proc); fault != api.OK {
			return fault
		}
		if slices.Contains(o.Results[:i], v) {
			return api.ErrTwice
		}
	}
	return api.OK
}
