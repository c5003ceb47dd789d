package machine

import (
	"surveyor/api"
	"surveyor/cond"
	"surveyor/expr"
	"surveyor/memory"
)

// stepper makes one step. What is done to the configuration does not matter any more as soon as the event is not OutcomeRunning.
type stepper struct {
	Machine
	config api.Config
	event  Event
}

// top returns the innermost frame.
func (s *stepper) top() *api.Frame {
	return &s.config.Frames[len(s.config.Frames)-1]
}

// end ends the run, if nothing has ended it before.
func (s *stepper) end(outcome, check int) {
	if s.event.Outcome == api.OutcomeRunning {
		s.event.Outcome, s.event.Check = outcome, check
	}
}

// note ends the run if a value has an error.
func (s *stepper) note(fault api.Errno) {
	if fault != api.OK {
		s.end(ending(fault))
	}
}

// leave returns from the innermost procedure.
func (s *stepper) leave() {
	last := len(s.config.Frames) - 1
	if last == 0 {
		s.end(api.OutcomeDone, api.CheckNone)
		return
	}
	done := s.config.Frames[last]
	s.config.Frames = s.config.Frames[:last]
	s.event.Edge = s.Call(*s.top(), done.Proc)
	e := s.graphs[s.top().Proc].Edges[s.event.Edge]
	for i, v := range e.Command.Results {
		s.top().Vars[v] = done.Vars[s.procs[done.Proc].Params+i]
	}
	s.top().Point = e.To
}

// take goes along an edge.
func (s *stepper) take(edge int) {
	s.event.Edge = edge
	e := s.graphs[s.top().Proc].Edges[edge]
	// A frame that calls stays where it is until it is returned to.
	if e.Command.Op != api.CmdCall {
		s.top().Point = e.To
	}
	s.action(e.Command.Op)(e.Command)
}

// action returns the method that executes the commands of an operation.
func (s *stepper) action(op int) func(api.Command) {
	switch op {
	case api.CmdAssign:
		return s.assign
	case api.CmdInput:
		return s.input
	case api.CmdLoad:
		return s.load
	case api.CmdStore:
		return s.store
	case api.CmdCheck:
		return s.check
	case api.CmdCall:
		return s.call
	}
	return s.skip
}

// skip is for CmdAssume, too, as its condition is true if its edge is taken.
func (s *stepper) skip(api.Command) {}

func (s *stepper) assign(c api.Command) {
	s.top().Vars[c.Var] = s.value(c.Expr)
}

func (s *stepper) input(c api.Command) {
	if s.config.Reads == len(s.reads) {
		s.end(api.OutcomeStarved, api.CheckNone)
		return
	}
	s.top().Vars[c.Var] = s.reads[s.config.Reads]
	s.config.Reads++
}

func (s *stepper) load(c api.Command) {
	s.top().Vars[c.Var] = *s.element(c)
}

func (s *stepper) store(c api.Command) {
	place := s.element(c)
	*place = s.value(c.Expr)
}

func (s *stepper) check(c api.Command) {
	holds, fault := cond.Eval(c.Cond, s.top().Vars)
	s.note(fault)
	if !holds {
		s.end(api.OutcomeFailed, c.Check)
	}
}

func (s *stepper) call(c api.Command) {
	if s.procs[c.Proc].Extern {
		s.end(api.OutcomeBlocked, api.CheckNone)
	}
	var args []api.Int
	for _, e := range c.Args {
		args = append(args, s.value(e))
	}
	if len(s.config.Frames) == api.MaxFrames {
		s.end(api.OutcomeDeep, api.CheckNone)
	}
	s.config.Frames = append(s.config.Frames, s.Frame(c.Proc, args))
}

// value returns the value of an expression, or anything if it has none.
func (s *stepper) value(e api.Expr) api.Int {
	value, fault := expr.Eval(e, s.top().Vars)
	s.note(fault)
	return value
}

// element returns the place of the element of an array at the index of a command, or any place if there is none.
func (s *stepper) element(c api.Command) *api.Int {
	place, found := memory.Element(s.top().Arrays[c.Array], s.value(c.Index))
	if !found {
		s.end(api.OutcomeFailed, api.CheckIndex)
		return new(api.Int)
	}
	return place
}
