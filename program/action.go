package program

import "surveyor/api"

// The methods of this file execute statements whose divisors are not 0, and return the outcome.

func (m *machine) assign(s api.Stmt) int {
	return m.put(&m.top().vars[s.Var], s.Expr)
}

func (m *machine) input(s api.Stmt) int {
	if m.result.Reads == len(m.reads) {
		return api.OutcomeStarved
	}
	m.top().vars[s.Var] = m.reads[m.result.Reads]
	m.result.Reads++
	return api.OutcomeRunning
}

func (m *machine) load(s api.Stmt) int {
	place, outcome := m.element(s)
	if outcome == api.OutcomeRunning {
		m.top().vars[s.Var] = *place
	}
	return outcome
}

func (m *machine) store(s api.Stmt) int {
	place, outcome := m.element(s)
	if outcome != api.OutcomeRunning {
		return outcome
	}
	return m.put(place, s.Expr)
}

func (m *machine) choose(s api.Stmt) int {
	holds, outcome := m.truth(s)
	if holds {
		m.top().push(s.Body)
	} else {
		m.top().push(s.Else)
	}
	return outcome
}

func (m *machine) repeat(s api.Stmt) int {
	holds, outcome := m.truth(s)
	if holds {
		m.top().push([]api.Stmt{s})
		m.top().push(s.Body)
	}
	return outcome
}

func (m *machine) assert(s api.Stmt) int {
	holds, outcome := m.truth(s)
	if outcome == api.OutcomeRunning && !holds {
		return m.fail(api.CheckAssert, s)
	}
	return outcome
}

func (m *machine) assume(s api.Stmt) int {
	holds, outcome := m.truth(s)
	if outcome == api.OutcomeRunning && !holds {
		return api.OutcomeBlocked
	}
	return outcome
}

func (m *machine) call(s api.Stmt) int {
	var args []api.Int
	for _, e := range s.Args {
		value, outcome := m.value(e)
		if outcome != api.OutcomeRunning {
			return outcome
		}
		args = append(args, value)
	}
	if len(m.frames) == api.MaxFrames {
		return api.OutcomeDeep
	}
	m.enter(m.procs[s.Proc], args, s.Results)
	return api.OutcomeRunning
}
