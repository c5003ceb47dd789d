package matrix

import (
	"slices"

	"surveyor/api"
)

// coordinates are those of rows, and of a vector in their lattice, with respect to a base: the first of the rows that are linearly independent. They are multiplied by the modulus, which makes all of them integers.
//
// The lattice of the coordinates contains the multiples of the modulus in each coordinate. So everything can be computed modulo this number, and the multipliers of rows outside the base do not grow with the number of rows.
type coordinates struct {
	modulus      api.Int
	base, others []int
	rows         [][]api.Int
	vector       []api.Int
}

func (c *calculator) coordinates(n int, rows [][]api.Int, v []api.Int) coordinates {
	form := c.echelon(len(rows), columns(n, append(slices.Clone(rows), v)))
	list := coordinates{modulus: c.modulus(form)}
	multiples := mapped(form.pivots, func(p pivot) []api.Int {
		factor := c.over(list.modulus, form.at(p))
		return mapped(form.rows[p.row], func(x api.Int) api.Int { return c.times(x, factor) })
	})
	points := columns(len(rows)+1, multiples)
	list.rows, list.vector = points[:len(rows)], points[len(rows)]
	for i := range rows {
		if form.hasPivot(i) {
			list.base = append(list.base, i)
		} else {
			list.others = append(list.others, i)
		}
	}
	return list
}

// modulus returns the least common denominator of a reduced row echelon form.
func (c *calculator) modulus(form echelon) api.Int {
	common := api.Int("1")
	for _, p := range form.pivots {
		common = c.multiple(common, form.at(p))
	}
	return common
}

// multipliers returns multipliers of rows with which a vector in their lattice is their combination.
func (c *calculator) multipliers(n int, rows [][]api.Int, v []api.Int) []api.Int {
	list := c.coordinates(n, rows, v)
	l := c.residues(list)
	rest := l.rest(slices.Concat(list.vector, zeros[api.Int](len(list.others))))
	mult := zeros[api.Int](len(rows))
	vector := list.vector
	for k, i := range list.others {
		mult[i] = c.minus("0", rest[len(list.base)+k])
		vector = combined(vector, list.rows[i], func(x, y api.Int) api.Int { return c.minus(x, c.times(mult[i], y)) })
	}
	for k, i := range list.base {
		mult[i] = c.over(vector[k], list.modulus)
	}
	return mult
}

// residues returns the lattice of the coordinates of the rows, modulo the modulus. Behind the coordinates of a row of its basis there are the multipliers of the rows outside the base whose combination it is.
func (c *calculator) residues(list coordinates) lattice {
	size, more := len(list.base), len(list.others)
	l := c.newLattice(size)
	l.tidy = func(x api.Int) api.Int { return c.modulo(x, list.modulus) }
	for j := range l.basis {
		l.basis[j] = zeros[api.Int](size + more)
		l.basis[j][j] = list.modulus
	}
	for k, i := range list.others {
		l.insert(slices.Concat(list.rows[i], unit[api.Int](more, k)))
	}
	return l
}
