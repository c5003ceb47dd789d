package simplex

import (
	"surveyor/api"
	"surveyor/integer"
)

// maximum returns a right result of a maximization.
func (s *solver) maximum(w *writer, c objective) api.Optimum {
	if violated, ok := s.start(); !ok {
		return api.Optimum{Verdict: api.ProgramInfeasible, Mult: s.refutation(w, violated)}
	}
	t, goal := s.aimed(c.expression)
	if column, ok := t.climb(goal); !ok {
		return api.Optimum{Verdict: api.ProgramUnbounded, Point: t.point(w), Ray: t.ray(w, t.rows[goal], column)}
	}
	den := integer.Mul(t.den, c.den)
	return api.Optimum{
		Verdict: api.ProgramOptimal,
		Value:   w.quotient(t.rows[goal].constant(), den),
		Point:   t.point(w),
		Mult:    t.multipliers(w, t.rows[goal], den),
	}
}

// greatest returns the greatest value of an objective at feasible points, if there is one.
func (s *solver) greatest(w *writer, c objective) api.Rat {
	t, goal := s.aimed(c.expression)
	if _, ok := t.climb(goal); !ok {
		return ""
	}
	return w.quotient(t.rows[goal].constant(), integer.Mul(t.den, c.den))
}

// collected returns a number for each variable from first to end-1: those in the basis have one by their rows, all others by their columns.
func (s *solver) collected(first, end int, inBasis func(r row) integer.Number, outside func(column int) integer.Number) []integer.Number {
	numbers := make([]integer.Number, end-first)
	for _, r := range s.rows {
		if r.variable >= first && r.variable < end {
			numbers[r.variable-first] = inBasis(r)
		}
	}
	for column, variable := range s.columns {
		if variable >= first && variable < end {
			numbers[variable-first] = outside(column)
		}
	}
	return numbers
}

// point returns the point of the tableau.
func (s *solver) point(w *writer) []api.Rat {
	numbers := s.collected(0, s.n, row.constant, func(int) integer.Number { return integer.Of(0) })
	return w.quotients(numbers, s.den)
}

// ray returns the direction in which the variable of a row grows, when that of a column changes alone.
func (s *solver) ray(w *writer, goal row, column int) []api.Rat {
	growth := func(r row) integer.Number { return r.entries[column] }
	numbers := s.collected(0, s.n, growth, func(other int) integer.Number {
		if other == column {
			return s.den
		}
		return integer.Of(0)
	})
	unit := integer.Of(0)
	for _, x := range numbers {
		unit = integer.Gcd(unit, x)
	}
	if goal.falls(column) {
		unit = unit.Neg()
	}
	return w.quotients(numbers, unit)
}

// multipliers returns those with which the constraints outside the basis cancel the variables of a row, all divided by a number; if the row is that of a constraint itself, this has its denominator as multiplier.
func (s *solver) multipliers(w *writer, r row, by integer.Number) []api.Rat {
	own := func(other row) integer.Number {
		if other.variable == r.variable {
			return s.den
		}
		return integer.Of(0)
	}
	numbers := s.collected(s.n, len(s.kinds)-1, own, func(column int) integer.Number { return r.entries[column].Neg() })
	return w.quotients(numbers, by)
}

// refutation returns the multipliers with which the constraints have the sum -1, by the row of one that cannot be satisfied.
func (s *solver) refutation(w *writer, i int) []api.Rat {
	return s.multipliers(w, s.rows[i], s.rows[i].constant().Neg())
}
