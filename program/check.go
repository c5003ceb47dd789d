package program

import (
	"slices"
	"strings"

	"surveyor/api"
	"surveyor/cond"
	"surveyor/lexer"
)

// checker finds the first error of a procedure.
type checker struct {
	procs []api.Proc // all of them
	at    int        // the index of this one
	proc  api.Proc
}

// checkProc returns the error of a procedure.
func checkProc(procs []api.Proc, at int) api.Errno {
	c := checker{procs, at, procs[at]}
	for _, check := range [...]func() api.Errno{c.name, c.shape, c.variables, c.arrays, c.contract, c.size, c.body} {
		if fault := check(); fault != api.OK {
			return fault
		}
	}
	return api.OK
}

func (c checker) name() api.Errno {
	switch {
	case !isName(c.proc.Name):
		return api.ErrName
	case indexOf(c.procs[:c.at], c.proc.Name) >= 0:
		return api.ErrTwice
	}
	return api.OK
}

func isName(s string) bool {
	return lexer.Name(s) == api.OK
}

func (c checker) shape() api.Errno {
	p := c.proc
	switch {
	case len(p.Vars) > api.MaxVars:
		return api.ErrMany
	case p.Params < 0 || p.Results < 0 || p.Params > len(p.Vars) || p.Results > len(p.Vars)-p.Params:
		return api.ErrShape
	}
	return api.OK
}

func (c checker) variables() api.Errno {
	for i, v := range c.proc.Vars {
		first, second, hasPoint := strings.Cut(v, ".")
		switch {
		case !isName(first) || hasPoint && !isName(second):
			return api.ErrName
		case slices.Contains(c.proc.Vars[:i], v):
			return api.ErrTwice
		}
	}
	return api.OK
}

func (c checker) arrays() api.Errno {
	if len(c.proc.Arrays) > api.MaxArrays {
		return api.ErrMany
	}
	used := slices.Clone(c.proc.Vars)
	for _, a := range c.proc.Arrays {
		switch {
		case !isName(a.Name):
			return api.ErrName
		case slices.Contains(used, a.Name):
			return api.ErrTwice
		case a.Len < 1 || a.Len > api.MaxLen:
			return api.ErrRange
		}
		used = append(used, a.Name)
	}
	return api.OK
}

func (c checker) contract() api.Errno {
	if fault := cond.Check(c.proc.Requires, c.proc.Params); fault != api.OK {
		return fault
	}
	return cond.Check(c.proc.Ensures, c.proc.Params+c.proc.Results)
}

// size finds errors of the body as a whole.
func (c checker) size() api.Errno {
	p := c.proc
	if p.Extern && (len(p.Body) > 0 || len(p.Arrays) > 0 || len(p.Vars) > p.Params+p.Results) {
		return api.ErrForm
	}
	count, depth := measure(p.Body, api.MaxStmts)
	switch {
	case count > api.MaxStmts:
		return api.ErrMany
	case depth > api.MaxDepth:
		return api.ErrDeep
	}
	return api.OK
}

func (c checker) body() api.Errno {
	for s := range statements(c.proc.Body) {
		if fault := c.statement(s); fault != api.OK {
			return fault
		}
	}
	return api.OK
}
