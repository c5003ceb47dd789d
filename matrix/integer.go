package matrix

import (
	"slices"

	"surveyor/api"
)

// Hermite returns the Hermite normal form of integer rows.
func Hermite(n int, rows [][]api.Int) ([][]api.Int, api.Errno) {
	if e := checkRows(n, rows); e != api.OK {
		return nil, e
	}
	c := &calculator{}
	l := c.newLattice(n)
	for _, row := range rows {
		l.insert(row)
		l.normalize()
	}
	return finished(c, slices.DeleteFunc(l.basis, func(row []api.Int) bool { return row == nil }))
}

// Combine returns the combination of integer rows with integer multipliers.
func Combine(n int, rows [][]api.Int, mult []api.Int) ([]api.Int, api.Errno) {
	if e := checkRows(n, rows); e != api.OK {
		return nil, e
	}
	if e := checkInteger(mult, len(rows)); e != api.OK {
		return nil, e
	}
	c := &calculator{}
	sum := zeros[api.Int](n)
	for i, row := range rows {
		sum = combined(sum, row, func(x, y api.Int) api.Int { return c.plus(x, c.times(mult[i], y)) })
	}
	return finished(c, sum)
}

// Member reports whether a vector is an integer combination of rows, and returns the multipliers.
func Member(n int, rows [][]api.Int, v []api.Int) ([]api.Int, bool, api.Errno) {
	if e := checkRows(n, rows); e != api.OK {
		return nil, false, e
	}
	if e := checkInteger(v, n); e != api.OK {
		return nil, false, e
	}
	c := &calculator{}
	used, ok := c.generators(n, rows, v)
	if !ok || c.e != api.OK {
		return nil, false, c.e
	}
	mult := zeros[api.Int](len(rows))
	chosen := mapped(used, func(i int) []api.Int { return rows[i] })
	for k, x := range c.multipliers(n, chosen, v) {
		mult[used[k]] = x
	}
	if c.e != api.OK {
		return nil, false, c.e
	}
	return mult, true, api.OK
}

// generators returns the indices of rows in whose lattice a vector is, if it is in that of all rows: each of them is outside the lattice of those before it.
func (c *calculator) generators(n int, rows [][]api.Int, v []api.Int) ([]int, bool) {
	var used []int
	l := c.newLattice(n)
	rest := v
	for i, row := range rows {
		if isZero(rest) || c.e != api.OK {
			break
		}
		if l.insert(row) {
			used = append(used, i)
			l.normalize()
			rest = l.rest(rest)
		}
	}
	return used, isZero(rest)
}

func isZero(row []api.Int) bool {
	return !slices.ContainsFunc(row, func(x api.Int) bool { return x != "0" })
}
