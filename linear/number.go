package linear

import (
	"iter"
	"slices"
	"strings"

	"surveyor/api"
	"surveyor/rational"
)

// isSize reports whether an expression may have n variables.
func isSize(n int) bool {
	return n >= 0 && n <= api.MaxDims
}

// numbers returns the coefficients, and the constant behind them.
func numbers(l api.Linear) []api.Rat {
	return append(slices.Clone(l.Coef), l.Const)
}

// expression returns the expression with these numbers, if all of them are short.
func expression(list []api.Rat) (api.Linear, api.Errno) {
	for _, x := range list {
		if !isShort(x) {
			return api.Linear{}, api.ErrLarge
		}
	}
	n := len(list) - 1
	return api.Linear{Coef: list[:n:n], Const: list[n]}, api.OK
}

// terms yields the variables with a coefficient that is not 0, and these coefficients.
func terms(l api.Linear) iter.Seq2[int, api.Rat] {
	return func(yield func(int, api.Rat) bool) {
		for i, c := range l.Coef {
			if c != "0" && !yield(i, c) {
				return
			}
		}
	}
}

func zeros(n int) []api.Rat {
	return slices.Repeat([]api.Rat{"0"}, n)
}

// checkNumbers returns the first error of numbers that have to be short.
func checkNumbers(list []api.Rat) api.Errno {
	for _, x := range list {
		if e := checkNumber(x); e != api.OK {
			return e
		}
	}
	return api.OK
}

func checkNumber(x api.Rat) api.Errno {
	if e := rational.Check(x); e != api.OK {
		return e
	}
	if !isShort(x) {
		return api.ErrLarge
	}
	return api.OK
}

// isShort reports whether the numerator and the denominator of a canonical number have at most api.MaxDigits digits.
func isShort(x api.Rat) bool {
	num, den, _ := strings.Cut(strings.TrimPrefix(string(x), "-"), "/")
	return len(num) <= api.MaxDigits && len(den) <= api.MaxDigits
}

// mapped returns the results of a function for all elements of a list.
func mapped[A, B any](list []A, function func(i int, x A) B) []B {
	results := make([]B, len(list))
	for i, x := range list {
		results[i] = function(i, x)
	}
	return results
}

// multiple returns the products of short numbers with a short number; they fit into what package rational computes with, and so do the sums of such products.
func multiple(list []api.Rat, c api.Rat) []api.Rat {
	return mapped(list, func(_ int, x api.Rat) api.Rat {
		product, _ := rational.Mul(x, c)
		return product
	})
}

// sum returns the sums of the numbers at the same places.
func sum(a, b []api.Rat) []api.Rat {
	return mapped(a, func(i int, x api.Rat) api.Rat {
		total, _ := rational.Add(x, b[i])
		return total
	})
}
