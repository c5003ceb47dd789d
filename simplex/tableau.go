package simplex

import (
	"slices"

	"surveyor/integer"
)

// row is an expression for a variable of the basis. The variable, multiplied by the denominator of the tableau, is the sum of the entries, each multiplied by the variable of its column, and of the last entry, the constant.
type row struct {
	variable int
	entries  []integer.Number
}

func (r row) constant() integer.Number {
	return r.entries[len(r.entries)-1]
}

// rises reports whether the variable of the row grows with that of a column.
func (r row) rises(column int) bool {
	return r.entries[column].Sign() > 0
}

// falls reports whether the variable of the row shrinks when that of a column grows.
func (r row) falls(column int) bool {
	return r.entries[column].Sign() < 0
}

// moves reports whether the variable of the row changes with that of a column.
func (r row) moves(column int) bool {
	return !r.entries[column].IsZero()
}

// tableau expresses the variables of the basis, those of the rows, by all others, those of the columns. At the point of the tableau, all others are 0.
//
// The entries are integers over a common denominator, which is positive: the magnitude of the determinant of the basis. So they are minors of the numbers of the program, and no longer than these are.
type tableau struct {
	rows    []row
	columns []int
	den     integer.Number
}

// copied returns a tableau that can be changed without changing this one. (The entries of a row never change.)
func (t tableau) copied() tableau {
	return tableau{slices.Clone(t.rows), slices.Clone(t.columns), t.den}
}

// pivot is the place at which the variable of a row and that of a column are exchanged.
type pivot struct {
	row, column int
}

// exchange brings the variable of a column into the basis, in place of that of a row.
func (t *tableau) exchange(p pivot) {
	by, falls := t.rows[p.row].entries, t.rows[p.row].falls(p.column)
	if falls {
		by = mapped(by, integer.Number.Neg)
	}
	for i, r := range t.rows {
		entries := t.solved(by, p.column)
		if i != p.row {
			entries = t.without(r.entries, by, p.column)
		}
		if falls {
			entries[p.column] = entries[p.column].Neg()
		}
		t.rows[i].entries = entries
	}
	t.rows[p.row].variable, t.columns[p.column] = t.columns[p.column], t.rows[p.row].variable
	t.den = by[p.column]
}

// solved returns the entries for the variable of a column, by those of a row that rises with it.
func (t *tableau) solved(by []integer.Number, column int) []integer.Number {
	entries := mapped(by, integer.Number.Neg)
	entries[column] = t.den
	return entries
}

// without returns entries in which the variable of a column is replaced by what it is in a row that rises with it. The divisions leave no remainder, as the results are minors, too (Edmonds).
func (t *tableau) without(entries, by []integer.Number, column int) []integer.Number {
	keep, take := by[column], entries[column]
	results := make([]integer.Number, len(entries))
	for k, x := range entries {
		difference := integer.Sub(integer.Mul(keep, x), integer.Mul(take, by[k]))
		results[k] = integer.Divide(difference, t.den)
	}
	results[column] = take
	return results
}

// expressed returns the entries for an expression in the first variables.
func (t *tableau) expressed(x expression) []integer.Number {
	entries := make([]integer.Number, len(t.columns)+1)
	entries[len(t.columns)] = integer.Mul(x.constant, t.den)
	for column, variable := range t.columns {
		if variable < len(x.coef) {
			entries[column] = integer.Mul(x.coef[variable], t.den)
		}
	}
	for _, r := range t.rows {
		if r.variable >= len(x.coef) {
			continue
		}
		for k, y := range r.entries {
			entries[k] = integer.Add(entries[k], integer.Mul(x.coef[r.variable], y))
		}
	}
	return entries
}
