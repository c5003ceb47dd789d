package cfg

import (
	"surveyor/api"
	"surveyor/operands"
)

// used has the operands that each operation uses.
var used = [...]int{
	api.CmdSkip:   0,
	api.CmdAssign: operands.Var | operands.Expr,
	api.CmdInput:  operands.Var,
	api.CmdLoad:   operands.Var | operands.Array | operands.Index,
	api.CmdStore:  operands.Array | operands.Index | operands.Expr,
	api.CmdAssume: operands.Cond,
	api.CmdCheck:  operands.Cond,
	api.CmdCall:   operands.Proc | operands.Args | operands.Results,
}

// scope is what graphs and commands of a procedure of a well-formed program refer to.
type scope struct {
	procs []api.Proc // all of them
	proc  api.Proc
}

func (s scope) checkGraph(g api.Graph) api.Errno {
	switch {
	case g.Points < 1 || g.Points > api.MaxPoints:
		return api.ErrRange
	case g.Exit < 0 || g.Exit >= g.Points:
		return api.ErrNone
	case len(g.Edges) > api.MaxEdges:
		return api.ErrMany
	case s.proc.Extern && len(g.Edges) > 0:
		return api.ErrForm
	}
	for _, e := range g.Edges {
		if e.From < 0 || e.From >= g.Points || e.To < 0 || e.To >= g.Points {
			return api.ErrNone
		}
		if fault := s.checkCommand(e.Command); fault != api.OK {
			return fault
		}
	}
	return api.OK
}

func (s scope) checkCommand(c api.Command) api.Errno {
	switch {
	case c.Op < 0 || c.Op >= len(used):
		return api.ErrArg
	case c.At < 0 || c.At > api.MaxText:
		return api.ErrRange
	case c.Op == api.CmdCheck && (c.Check < api.CheckAssert || c.Check > api.CheckEnsures):
		return api.ErrArg
	case c.Op != api.CmdCheck && c.Check != api.CheckNone:
		return api.ErrForm
	}
	return operands.OfCommand(c).Check(used[c.Op], s.procs, s.proc)
}
