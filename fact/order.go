package fact

import (
	"cmp"
	"slices"

	"surveyor/api"
)

// order compares facts over the same variables: by their kinds, their coefficients, their constants, and then their moduli.
func order(a, b api.Fact) int {
	return chained(
		func(a, b api.Fact) int { return cmp.Compare(a.Op, b.Op) },
		func(a, b api.Fact) int { return slices.CompareFunc(a.Coef, b.Coef, compare) },
		func(a, b api.Fact) int { return compare(a.Const, b.Const) },
		func(a, b api.Fact) int { return compare(a.Mod, b.Mod) },
	)(a, b)
}

// chained compares by the first one of some functions that tells two elements apart.
func chained[T any](functions ...func(a, b T) int) func(a, b T) int {
	return func(a, b T) int {
		for _, function := range functions {
			if c := function(a, b); c != 0 {
				return c
			}
		}
		return 0
	}
}

// inserted returns a list in strictly ascending order with a further element, which may be in it already.
func inserted[T any](list []T, x T, order func(a, b T) int) []T {
	i, found := slices.BinarySearchFunc(list, x, order)
	if found {
		return list
	}
	return slices.Insert(list, i, x)
}
