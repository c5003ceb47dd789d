package matrix

import (
	"slices"

	"surveyor/api"
)

// pivot is the place of the first element of a row that is not 0.
type pivot struct {
	row, column int
}

// echelon is a matrix of integers whose rows are multiples of those of a reduced row echelon form, with rows of zeros below them. The rows have no common divisor, so their numbers are no longer than minors of the matrix that it is the form of.
type echelon struct {
	rows   [][]api.Int
	pivots []pivot
}

// at returns the element at a pivot.
func (f echelon) at(p pivot) api.Int {
	return f.rows[p.row][p.column]
}

func (f echelon) hasPivot(column int) bool {
	return slices.ContainsFunc(f.pivots, func(p pivot) bool { return p.column == column })
}

// isRegular reports whether there are pivots in all of the first n rows and columns.
func (f echelon) isRegular(n int) bool {
	for i := range n {
		if !slices.Contains(f.pivots, pivot{i, i}) {
			return false
		}
	}
	return true
}

// whole returns a multiple with integers of each row.
func (c *calculator) whole(rows [][]api.Rat) [][]api.Int {
	return mapped(rows, func(row []api.Rat) []api.Int { return c.vector(row).num })
}

// echelon brings a matrix of integers into echelon form, with pivots in the first n columns.
func (c *calculator) echelon(n int, rows [][]api.Int) echelon {
	form := echelon{rows: mapped(rows, c.primitive)}
	for column := range n {
		top := len(form.pivots)
		found := slices.IndexFunc(form.rows[top:], func(row []api.Int) bool { return row[column] != "0" })
		if found < 0 {
			continue
		}
		form.rows[top], form.rows[top+found] = form.rows[top+found], form.rows[top]
		p := pivot{top, column}
		form.pivots = append(form.pivots, p)
		c.eliminate(form, p)
	}
	return form
}

// eliminate makes all other elements in the column of a pivot 0.
func (c *calculator) eliminate(form echelon, p pivot) {
	by := form.rows[p.row]
	for i, row := range form.rows {
		if i == p.row || row[p.column] == "0" {
			continue
		}
		common := c.divisor(row[p.column], by[p.column])
		keep, take := c.over(by[p.column], common), c.over(row[p.column], common)
		form.rows[i] = c.primitive(combined(row, by, func(x, y api.Int) api.Int {
			return c.minus(c.times(keep, x), c.times(take, y))
		}))
	}
}

// combined applies an operation to the elements of two rows in the same column.
func combined(row, other []api.Int, operation func(x, y api.Int) api.Int) []api.Int {
	result := make([]api.Int, len(row))
	for i, x := range row {
		result[i] = operation(x, other[i])
	}
	return result
}

// primitive returns a row divided by the greatest common divisor of its elements.
func (c *calculator) primitive(row []api.Int) []api.Int {
	common := c.content(row)
	if signOf(common) == zero {
		return row
	}
	return mapped(row, func(x api.Int) api.Int { return c.over(x, common) })
}

// content returns the greatest common divisor of integers.
func (c *calculator) content(row []api.Int) api.Int {
	common := api.Int("0")
	for _, x := range row {
		if common == "1" {
			break
		}
		common = c.divisor(common, x)
	}
	return common
}
