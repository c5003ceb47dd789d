// Package memory is a helper of the layers that run programs: the numbers of a procedure at work.
package memory

import (
	"slices"

	"surveyor/api"
	"surveyor/bigint"
	"surveyor/number"
)

// Check returns the error of the first number that no variable can have.
func Check(numbers []api.Int) api.Errno {
	for _, n := range numbers {
		if fault := number.Check(n); fault != api.OK {
			return fault
		}
	}
	return api.OK
}

// Start returns the variables and the arrays with which a procedure begins.
func Start(p api.Proc, args []api.Int) ([]api.Int, [][]api.Int) {
	var arrays [][]api.Int
	for _, a := range p.Arrays {
		arrays = append(arrays, zeros(a.Len))
	}
	return slices.Concat(args, zeros(len(p.Vars)-p.Params)), arrays
}

// zeros returns the numbers of n variables or elements that have not been assigned.
func zeros(n int) []api.Int {
	return slices.Repeat([]api.Int{"0"}, n)
}

// Element returns the place of the element of an array at an index, if there is one.
func Element(array []api.Int, index api.Int) (*api.Int, bool) {
	i, fault := bigint.Small(index)
	if fault != api.OK || i < 0 || i >= len(array) {
		return nil, false
	}
	return &array[i], true
}
