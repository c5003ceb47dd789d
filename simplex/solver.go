package simplex

import (
	"iter"
	"slices"

	"surveyor/api"
	"surveyor/integer"
)

// Kinds of variables.
const (
	free    = iota // has any value
	bounded        // is at least 0
	fixed          // is 0
)

// none is in place of a row or a column that does not exist.
const none = -1

// solver solves programs. Its variables are the n unknowns, then the values of the constraints, and then that of an objective.
type solver struct {
	tableau
	n     int
	kinds []int
}

// newSolver returns a solver at the point 0, where constraints may be violated.
func newSolver(n int, l []api.Fact) *solver {
	s := &solver{tableau: tableau{den: integer.Of(1)}, n: n}
	for i := range n {
		s.columns = append(s.columns, i)
		s.kinds = append(s.kinds, free)
	}
	for i, f := range l {
		s.rows = append(s.rows, row{n + i, s.expressed(expressionOf(f))})
		s.kinds = append(s.kinds, kindOf(f))
	}
	s.kinds = append(s.kinds, free)
	return s
}

func kindOf(f api.Fact) int {
	if f.Op == api.FactEq {
		return fixed
	}
	return bounded
}

// aimed returns a copy of a solver with a row for an objective, and the index of this row.
func (s *solver) aimed(x expression) (*solver, int) {
	t := &solver{s.copied(), s.n, s.kinds}
	t.rows = append(t.rows, row{len(s.kinds) - 1, s.expressed(x)})
	return t, len(s.rows)
}

// released returns a copy of a solver without a constraint: its variable is free.
func (s *solver) released(constraint int) *solver {
	t := &solver{s.copied(), s.n, slices.Clone(s.kinds)}
	t.kinds[s.n+constraint] = free
	return t
}

// start moves to a point that satisfies all constraints. If there is none, it returns false, and the row of a constraint that is violated wherever the others hold. When a constraint has been released, it can go on from there.
func (s *solver) start() (int, bool) {
	for i := range s.rows {
		if s.kinds[s.rows[i].variable] == fixed && !s.solve(i) {
			return i, false
		}
	}
	for i := range s.rows {
		if s.kinds[s.rows[i].variable] == bounded && s.rows[i].constant().Sign() < 0 && !s.satisfy(i) {
			return i, false
		}
	}
	return none, true
}

// solve makes an equation hold by one of the unknowns. Without an unknown that is still free, it depends on the equations before it alone.
func (s *solver) solve(equation int) bool {
	column := s.entering(s.rows[equation], false)
	if column == none {
		return s.rows[equation].constant().IsZero()
	}
	s.exchange(pivot{equation, column})
	return true
}

// satisfy makes an inequality hold, and lets no other one that holds be violated. It returns false if this cannot be.
func (s *solver) satisfy(goal int) bool {
	for p := range s.pivots(goal) {
		s.exchange(p)
		if p.row == goal {
			return true
		}
	}
	return false
}

// climb makes the variable of a row as great as possible. If there is no greatest value, it returns false, and the column along which the variable grows without end.
func (s *solver) climb(goal int) (int, bool) {
	for p := range s.pivots(goal) {
		if p.row == none {
			return p.column, false
		}
		s.exchange(p)
	}
	return none, true
}

// canExceed reports whether an expression is positive at a feasible point, from the one of the solver on.
func (s *solver) canExceed(x expression) bool {
	t, goal := s.aimed(x)
	for p := range t.pivots(goal) {
		if p.row == none || t.rows[goal].constant().Sign() > 0 {
			return true
		}
		t.exchange(p)
	}
	return t.rows[goal].constant().Sign() > 0
}

// implies reports whether all feasible points satisfy a constraint.
func (s *solver) implies(f api.Fact) bool {
	x := expressionOf(f)
	return !s.canExceed(x.opposite()) && (f.Op == api.FactGe || !s.canExceed(x))
}

// pivots yields the exchanges that make the variable of a row greater, each of them when the one before it is done. The last one has no row if nothing stops the variable. A variable that is at least 0, and is negative, stops when it is 0.
//
// Where an exchange does not move the point, the next ones are chosen by Bland's rule until one does: so no basis comes again.
func (s *solver) pivots(goal int) iter.Seq[pivot] {
	return func(yield func(pivot) bool) {
		stalled := false
		for {
			column := s.entering(s.rows[goal], stalled)
			if column == none {
				return
			}
			row := s.leaving(goal, column)
			stalled = row != none && s.rows[row].constant().IsZero()
			if !yield(pivot{row, column}) || row == none {
				return
			}
		}
	}
}

// entering returns a column whose variable can change so that the one of a row grows.
func (s *solver) entering(goal row, stalled bool) int {
	best := none
	for column := range s.columns {
		if s.improves(goal, column) && (best == none || s.isPreferred(goal, column, best, stalled)) {
			best = column
		}
	}
	return best
}

// improves reports whether the variable of a row grows if that of a column changes as it may.
func (s *solver) improves(goal row, column int) bool {
	test := goal.rises
	switch s.kinds[s.columns[column]] {
	case fixed:
		return false
	case free:
		test = goal.moves
	}
	return test(column)
}

// isPreferred reports whether a column is a better choice than another one: free variables are, as they never leave the basis; of others the one with the greater entry, or the first one by Bland's rule.
func (s *solver) isPreferred(goal row, column, other int, stalled bool) bool {
	x, y := s.columns[column], s.columns[other]
	switch {
	case (s.kinds[x] == free) != (s.kinds[y] == free):
		return s.kinds[x] == free
	case stalled:
		return x < y
	}
	return integer.Compare(goal.entries[column].Abs(), goal.entries[other].Abs()) > 0
}

// leaving returns the row whose variable is the first one to stop the goal: of several ones the goal itself, or the first one by Bland's rule.
func (s *solver) leaving(goal, column int) int {
	best := none
	grows := s.rows[goal].rises(column)
	if s.kinds[s.rows[goal].variable] == bounded {
		best = goal
	}
	for i, r := range s.rows {
		if i != goal && s.stops(r, column, grows) && (best == none || s.isSooner(i, best, column, best != goal)) {
			best = i
		}
	}
	return best
}

// stops reports whether the variable of a row must not change on and on when that of a column grows, or else shrinks. Violated inequalities do not stop others.
func (s *solver) stops(r row, column int, grows bool) bool {
	test := r.falls
	if !grows {
		test = r.rises
	}
	switch s.kinds[r.variable] {
	case free:
		return false
	case fixed:
		test = r.moves
	}
	return r.constant().Sign() >= 0 && test(column)
}

// isSooner reports whether the variable of a row is 0 before that of another one, when that of a column changes; or, where this decides, has a lower number.
func (s *solver) isSooner(i, other, column int, decides bool) bool {
	a, b := s.rows[i], s.rows[other]
	left := integer.Mul(a.constant().Abs(), b.entries[column].Abs())
	right := integer.Mul(b.constant().Abs(), a.entries[column].Abs())
	switch integer.Compare(left, right) {
	case -1:
		return true
	case 0:
		return decides && a.variable < b.variable
	}
	return false
}
