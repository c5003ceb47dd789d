package cfg

import (
	"strings"

	"surveyor/api"
	"surveyor/cond"
	"surveyor/expr"
	"surveyor/program"
)

// Format returns the text of a command of a procedure.
func Format(p api.Program, proc int, c api.Command) (string, api.Errno) {
	if fault := program.Check(p); fault != api.OK {
		return "", fault
	}
	if proc < 0 || proc >= len(p.Procs) {
		return "", api.ErrNone
	}
	s := scope{p.Procs, p.Procs[proc]}
	if fault := s.checkCommand(c); fault != api.OK {
		return "", fault
	}
	return s.command(c), api.OK
}

// kinds are the words for checks.
var kinds = [...]string{
	api.CheckAssert:   "assert",
	api.CheckDivide:   "divide",
	api.CheckIndex:    "index",
	api.CheckRequires: "requires",
	api.CheckEnsures:  "ensures",
}

// The methods of this file return texts of what is well-formed.

func (s scope) command(c api.Command) string {
	switch c.Op {
	case api.CmdAssign:
		return s.proc.Vars[c.Var] + " := " + s.expr(c.Expr)
	case api.CmdInput:
		return s.proc.Vars[c.Var] + " := input"
	case api.CmdLoad:
		return s.proc.Vars[c.Var] + " := " + s.element(c)
	case api.CmdStore:
		return s.element(c) + " := " + s.expr(c.Expr)
	case api.CmdAssume:
		return "assume " + s.cond(c.Cond)
	case api.CmdCheck:
		return kinds[c.Check] + " " + s.cond(c.Cond)
	case api.CmdCall:
		return s.call(c)
	}
	return "skip"
}

func (s scope) expr(e api.Expr) string {
	text, _ := expr.Format(e, s.proc.Vars)
	return text
}

func (s scope) cond(c api.Cond) string {
	text, _ := cond.Format(c, s.proc.Vars)
	return text
}

// element returns the text of the element of an array that a command loads or stores.
func (s scope) element(c api.Command) string {
	return s.proc.Arrays[c.Array].Name + "[" + s.expr(c.Index) + "]"
}

func (s scope) call(c api.Command) string {
	text := s.procs[c.Proc].Name + "(" + listed(c.Args, s.expr) + ")"
	if len(c.Results) == 0 {
		return text
	}
	return listed(c.Results, func(v int) string { return s.proc.Vars[v] }) + " := " + text
}

// listed returns the texts of the elements of a list.
func listed[T any](list []T, text func(T) string) string {
	var texts []string
	for _, x := range list {
		texts = append(texts, text(x))
	}
	return strings.Join(texts, ", ")
}
