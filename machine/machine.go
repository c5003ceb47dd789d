// Package machine is a helper of step and run: steps of configurations that have been checked. A long run would take far too long if the whole program were checked again before each of its steps.
package machine

import (
	"iter"

	"surveyor/api"
	"surveyor/cond"
	"surveyor/memory"
)

// Event says what a step did, as step.Event does.
type Event struct {
	Outcome int
	Check   int
	Edge    int
}

// Machine makes steps of a program along well-formed graphs of it, from configurations of both.
type Machine struct {
	procs  []api.Proc
	graphs []api.Graph
	reads  []api.Int
}

// New returns a machine that has these numbers to read.
func New(p api.Program, g []api.Graph, reads []api.Int) Machine {
	return Machine{p.Procs, g, reads}
}

// Frame returns the frame with which a procedure begins.
func (m Machine) Frame(proc int, args []api.Int) api.Frame {
	f := api.Frame{Proc: proc}
	f.Vars, f.Arrays = memory.Start(m.procs[proc], args)
	return f
}

// Call returns the index of the first edge from the point of a frame that calls a procedure, or -1.
func (m Machine) Call(f api.Frame, proc int) int {
	for i, e := range leaving(m.graphs[f.Proc], f.Point) {
		if e.Command.Op == api.CmdCall && e.Command.Proc == proc {
			return i
		}
	}
	return -1
}

// Taken returns the index of the edge that is taken in the next step, or -1, and the event of a condition that has no value, or the zero event.
func (m Machine) Taken(c api.Config) (int, Event) {
	f := c.Frames[len(c.Frames)-1]
	if m.isAtExit(f) {
		return -1, Event{}
	}
	for i, e := range leaving(m.graphs[f.Proc], f.Point) {
		if e.Command.Op != api.CmdAssume {
			return i, Event{}
		}
		holds, fault := cond.Eval(e.Command.Cond, f.Vars)
		switch {
		case fault != api.OK:
			outcome, check := ending(fault)
			return -1, Event{outcome, check, i}
		case holds:
			return i, Event{}
		}
	}
	return -1, Event{}
}

func (m Machine) isAtExit(f api.Frame) bool {
	return f.Point == m.graphs[f.Proc].Exit
}

// Step makes a step, and returns the configuration behind it, in new memory. It is made on a copy, which is given up if the step does not succeed: commands may leave anything in it.
func (m Machine) Step(before api.Config) (after api.Config, event Event) {
	s := &stepper{m, Copy(before), Event{Edge: -1}}
	defer func() {
		after, event = s.config, s.event
		if event.Outcome != api.OutcomeRunning {
			after = Copy(before)
		}
	}()
	if m.isAtExit(*s.top()) {
		s.leave()
		return
	}
	edge, fault := m.Taken(before)
	switch {
	case fault.Outcome != api.OutcomeRunning:
		s.event = fault
	case edge < 0:
		s.end(api.OutcomeBlocked, api.CheckNone)
	default:
		s.take(edge)
	}
	return
}

// leaving yields the edges from a point, with their indices.
func leaving(g api.Graph, point int) iter.Seq2[int, api.Edge] {
	return func(yield func(int, api.Edge) bool) {
		for i := range g.Edges {
			if g.Edges[i].From == point && !yield(i, g.Edges[i]) {
				return
			}
		}
	}
}

// ending returns the outcome of a run in which a value has an error, and the check that fails: a divisor is 0, or a number is too long.
func ending(fault api.Errno) (int, int) {
	if fault == api.ErrZero {
		return api.OutcomeFailed, api.CheckDivide
	}
	return api.OutcomeLarge, api.CheckNone
}
