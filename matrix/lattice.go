package matrix

import (
	"slices"

	"surveyor/api"
	"surveyor/bigint"
)

// lattice is the lattice of a basis: the row at index j is nil, or its first element that is not 0 is positive and in column j. Elements are replaced by tidy ones, where the lattice allows it.
type lattice struct {
	c     *calculator
	basis [][]api.Int
	tidy  func(x api.Int) api.Int
}

// newLattice returns the lattice of the row of n zeros alone.
func (c *calculator) newLattice(n int) lattice {
	return lattice{c, make([][]api.Int, n), func(x api.Int) api.Int { return x }}
}

// insert adds a row to the lattice, and reports whether it was not in it.
func (l lattice) insert(row []api.Int) bool {
	grown := false
	for j, by := range l.basis {
		if row[j] == "0" {
			continue
		}
		if by == nil {
			l.basis[j] = l.upright(row, j)
			return true
		}
		row = l.clear(row, j)
		grown = grown || l.basis[j][j] != by[j]
	}
	return grown
}

// upright returns a copy of a row, with the opposite signs if its element in a column is negative.
func (l lattice) upright(row []api.Int, j int) []api.Int {
	if signOf(row[j]) == negative {
		return mapped(row, func(x api.Int) api.Int { return l.c.minus("0", x) })
	}
	return slices.Clone(row)
}

// clear combines a row and the one of the basis at j into two others with the same lattice: the first one, which it returns, has 0 in column j, and the second one, which it puts into the basis, has the greatest common divisor there.
func (l lattice) clear(row []api.Int, j int) []api.Int {
	row = l.reduced(row, j)
	if row[j] == "0" {
		return row
	}
	by := l.basis[j]
	divisor, x, y, e := bigint.Bezout(by[j], row[j])
	divisor = l.c.keep(divisor, e)
	l.basis[j] = l.combined(x, by, y, row)
	return l.combined(l.c.over(by[j], divisor), row, l.c.minus("0", l.c.over(row[j], divisor)), by)
}

// reduced returns a row less a multiple of the one of the basis at j, so that its element in column j is from 0 to the pivot less 1.
func (l lattice) reduced(row []api.Int, j int) []api.Int {
	by := l.basis[j]
	times := l.c.over(row[j], by[j])
	if times == "0" {
		return row
	}
	return l.combined("1", row, l.c.minus("0", times), by)
}

// combined returns x row + y other.
func (l lattice) combined(x api.Int, row []api.Int, y api.Int, other []api.Int) []api.Int {
	return combined(row, other, func(a, b api.Int) api.Int {
		return l.tidy(l.c.plus(l.c.times(x, a), l.c.times(y, b)))
	})
}

// normalize brings the elements above the pivots into their range: in the lowest rows first, so that only normal rows are taken away from those above.
func (l lattice) normalize() {
	for i := len(l.basis) - 1; i >= 0; i-- {
		for j := i + 1; j < len(l.basis) && l.basis[i] != nil; j++ {
			if l.basis[j] != nil {
				l.basis[i] = l.reduced(l.basis[i], j)
			}
		}
	}
}

// rest returns what remains of a row when multiples of the basis are taken away: zeros, exactly if the row is in the lattice.
func (l lattice) rest(row []api.Int) []api.Int {
	for j, by := range l.basis {
		if by != nil {
			row = l.reduced(row, j)
		}
	}
	return row
}
