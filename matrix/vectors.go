package matrix

import (
	"slices"

	"surveyor/api"
	"surveyor/bigint"
	"surveyor/rational"
)

// isSize reports whether n is a possible number of columns.
func isSize(n int) bool {
	return n >= 0 && n <= api.MaxRows
}

// checkVector checks a vector that is expected to have n numbers.
func checkVector[T any](list []T, n int, check func(x T) api.Errno) api.Errno {
	if len(list) != n {
		return api.ErrShape
	}
	for _, x := range list {
		if e := check(x); e != api.OK {
			return e
		}
	}
	return api.OK
}

func checkRational(list []api.Rat, n int) api.Errno {
	return checkVector(list, n, rational.Check)
}

func checkInteger(list []api.Int, n int) api.Errno {
	return checkVector(list, n, bigint.Check)
}

// checkSystem checks a matrix and a vector with a number for each row.
func checkSystem(m api.Matrix, b []api.Rat) api.Errno {
	if e := Check(m); e != api.OK {
		return e
	}
	return checkRational(b, len(m.Rows))
}

// checkRows checks integer rows of n numbers.
func checkRows(n int, rows [][]api.Int) api.Errno {
	switch {
	case !isSize(n):
		return api.ErrRange
	case len(rows) > api.MaxPieces:
		return api.ErrMany
	}
	for _, row := range rows {
		if e := checkInteger(row, n); e != api.OK {
			return e
		}
	}
	return api.OK
}

// mapped returns the results of a function for all elements of a list.
func mapped[A, B any](list []A, function func(x A) B) []B {
	results := make([]B, len(list))
	for i, x := range list {
		results[i] = function(x)
	}
	return results
}

// columns returns the columns of rows with n numbers.
func columns[T any](n int, rows [][]T) [][]T {
	list := make([][]T, n)
	for i := range list {
		list[i] = mapped(rows, func(row []T) T { return row[i] })
	}
	return list
}

// beside returns rows with the rows of another matrix on their right.
func beside[T any](rows, others [][]T) [][]T {
	joined := make([][]T, len(rows))
	for i, row := range rows {
		joined[i] = slices.Concat(row, others[i])
	}
	return joined
}

func zeros[T ~string](n int) []T {
	return slices.Repeat([]T{"0"}, n)
}

// unit returns n numbers, all of which are 0 but number i.
func unit[T ~string](n, i int) []T {
	list := zeros[T](n)
	list[i] = "1"
	return list
}

func identity(n int) [][]api.Rat {
	rows := make([][]api.Rat, n)
	for i := range rows {
		rows[i] = unit[api.Rat](n, i)
	}
	return rows
}
