package program

import (
	"surveyor/api"
	"surveyor/cond"
	"surveyor/expr"
	"surveyor/memory"
)

// frame is a procedure at work.
type frame struct {
	proc    api.Proc
	vars    []api.Int
	arrays  [][]api.Int
	rest    [][]api.Stmt // what is left to execute, of the innermost statement last; no list is empty
	targets []int        // the variables of the frame below that get the results
}

// push makes statements the next ones.
func (f *frame) push(list []api.Stmt) {
	if len(list) > 0 {
		f.rest = append(f.rest, list)
	}
}

// take returns the next statement, and leaves those behind it.
func (f *frame) take() api.Stmt {
	last := len(f.rest) - 1
	list := f.rest[last]
	f.rest = f.rest[:last]
	f.push(list[1:])
	return list[0]
}

// machine is a run of a program.
type machine struct {
	procs  []api.Proc
	reads  []api.Int
	fuel   int
	frames []*frame // the innermost one last
	result Result
}

func (m *machine) top() *frame {
	return m.frames[len(m.frames)-1]
}

// enter begins with a procedure.
func (m *machine) enter(p api.Proc, args []api.Int, targets []int) {
	f := &frame{proc: p, targets: targets}
	f.vars, f.arrays = memory.Start(p, args)
	f.push(p.Body)
	m.frames = append(m.frames, f)
}

// leave ends the procedure that is at work, and assigns its results in the one below.
func (m *machine) leave() {
	done := m.top()
	m.frames = m.frames[:len(m.frames)-1]
	for i, v := range done.targets {
		m.top().vars[v] = done.vars[done.proc.Params+i]
	}
}

// run executes statements until the run ends.
func (m *machine) run() {
run:
	for {
		f := m.top()
		switch {
		case len(f.rest) == 0 && len(m.frames) == 1:
			m.result.Outcome = api.OutcomeDone
			m.result.Vars = f.vars
			break run
		case len(f.rest) == 0:
			m.leave()
		case m.result.Used == m.fuel:
			break run
		default:
			m.result.Used++
			if m.result.Outcome = m.execute(f.take()); m.result.Outcome != api.OutcomeRunning {
				break run
			}
		}
	}
}

// execute executes a statement, and returns the outcome: OutcomeRunning if the run goes on.
func (m *machine) execute(s api.Stmt) int {
	actions := [...]func(api.Stmt) int{
		api.StmtAssign: m.assign,
		api.StmtInput:  m.input,
		api.StmtLoad:   m.load,
		api.StmtStore:  m.store,
		api.StmtIf:     m.choose,
		api.StmtWhile:  m.repeat,
		api.StmtAssert: m.assert,
		api.StmtAssume: m.assume,
		api.StmtCall:   m.call,
	}
	for _, d := range divisors(s, len(m.top().vars)) {
		value, outcome := m.value(d)
		switch {
		case outcome != api.OutcomeRunning:
			return outcome
		case value == "0":
			return m.fail(api.CheckDivide, s)
		}
	}
	return actions[s.Op](s)
}

// fail records the check of a statement that fails.
func (m *machine) fail(check int, s api.Stmt) int {
	m.result.Check, m.result.At = check, s.At
	return api.OutcomeFailed
}

// value returns the value of an expression, or the outcome if a number in it is too long. Its divisors have been evaluated before, so nothing else can be wrong.
func (m *machine) value(e api.Expr) (api.Int, int) {
	value, fault := expr.Eval(e, m.top().vars)
	return value, outcomeOf(fault)
}

// truth returns the truth of the condition of a statement, or the outcome, as value does.
func (m *machine) truth(s api.Stmt) (bool, int) {
	holds, fault := cond.Eval(s.Cond, m.top().vars)
	return holds, outcomeOf(fault)
}

func outcomeOf(fault api.Errno) int {
	if fault != api.OK {
		return api.OutcomeLarge
	}
	return api.OutcomeRunning
}

// element returns the element of an array at the index of a statement, or the outcome if there is none.
func (m *machine) element(s api.Stmt) (*api.Int, int) {
	value, outcome := m.value(s.Index)
	if outcome != api.OutcomeRunning {
		return nil, outcome
	}
	place, found := memory.Element(m.top().arrays[s.Array], value)
	if !found {
		return nil, m.fail(api.CheckIndex, s)
	}
	return place, api.OutcomeRunning
}

// put assigns the value of an expression.
func (m *machine) put(place *api.Int, e api.Expr) int {
	value, outcome := m.value(e)
	if outcome == api.OutcomeRunning {
		*place = value
	}
	return outcome
}
