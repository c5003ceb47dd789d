package simplex

import (
	"surveyor/api"
	"surveyor/number"
)

// isSize reports whether a program may have n variables.
func isSize(n int) bool {
	return n >= 0 && n <= api.MaxDims
}

// checkFor returns the first error of constraints over n variables, where n is an argument of its own.
func checkFor(n int, l []api.Fact) api.Errno {
	if !isSize(n) {
		return api.ErrRange
	}
	return checkConstraints(n, l)
}

func checkConstraints(n int, l []api.Fact) api.Errno {
	if len(l) > api.MaxFacts {
		return api.ErrMany
	}
	for _, f := range l {
		if e := checkConstraint(n, f); e != api.OK {
			return e
		}
	}
	return api.OK
}

func checkConstraint(n int, f api.Fact) api.Errno {
	switch {
	case f.Op != api.FactGe && f.Op != api.FactEq:
		return api.ErrArg
	case len(f.Coef) != n:
		return api.ErrShape
	}
	for _, x := range f.Coef {
		if e := number.Check(x); e != api.OK {
			return e
		}
	}
	if e := number.Check(f.Const); e != api.OK {
		return e
	}
	if f.Mod != "0" {
		return api.ErrRange
	}
	return api.OK
}
