package fact

import (
	"iter"

	"surveyor/api"
	"surveyor/bigint"
	"surveyor/number"
	"surveyor/rational"
)

// isSize reports whether facts may have n variables.
func isSize(n int) bool {
	return n >= 0 && n <= api.MaxDims
}

// numbers yields the numbers of a fact.
func numbers(f api.Fact) iter.Seq[api.Int] {
	return func(yield func(api.Int) bool) {
		for _, x := range f.Coef {
			if !yield(x) {
				return
			}
		}
		_ = yield(f.Const) && yield(f.Mod)
	}
}

// terms yields the variables with a coefficient that is not 0, and these coefficients.
func terms(f api.Fact) iter.Seq2[int, api.Int] {
	return func(yield func(int, api.Int) bool) {
		for i, c := range f.Coef {
			if c != "0" && !yield(i, c) {
				return
			}
		}
	}
}

// checkList returns the first error of facts over n variables.
func checkList(l []api.Fact, n int) api.Errno {
	for _, f := range l {
		if e := Check(f, n); e != api.OK {
			return e
		}
	}
	return api.OK
}

func checkPoint(point []api.Int) api.Errno {
	for _, x := range point {
		if e := number.Check(x); e != api.OK {
			return e
		}
	}
	return api.OK
}

// hasModulus reports whether the modulus of a fact is as its kind requires.
func hasModulus(f api.Fact) bool {
	if f.Op == api.FactMod {
		return compare(f.Mod, "1") > 0
	}
	return f.Mod == "0"
}

// finished returns a normal form, if its numbers are short.
func finished(l []api.Fact) ([]api.Fact, api.Errno) {
	for _, f := range l {
		for x := range numbers(f) {
			if number.IsLong(x) {
				return nil, api.ErrLarge
			}
		}
	}
	return l, api.OK
}

// value returns a result of packages bigint and rational. The numbers of this package have no error there: the longest ones, those of substitutions, have about 3500 digits.
func value[T any](x T, _ api.Errno) T {
	return x
}

func compare(x, y api.Int) int {
	return value(bigint.Compare(x, y))
}

func negative(x api.Int) api.Int {
	return value(bigint.Neg(x))
}

func plus(x, y api.Int) api.Int {
	return value(bigint.Add(x, y))
}

func times(x, y api.Int) api.Int {
	return value(bigint.Mul(x, y))
}

// over returns the quotient, rounded down.
func over(x, y api.Int) api.Int {
	return value(bigint.Quo(x, y))
}

func modulo(x, y api.Int) api.Int {
	return value(bigint.Rem(x, y))
}

// divisor returns the greatest common divisor of a number and the coefficients of a fact.
func divisor(x api.Int, f api.Fact) api.Int {
	for _, c := range terms(f) {
		x = value(bigint.Gcd(x, c))
	}
	return x
}

func mapped[A, B any](list []A, function func(x A) B) []B {
	results := make([]B, len(list))
	for i, x := range list {
		results[i] = function(x)
	}
	return results
}

// whole returns the multiples of rational numbers by the least positive integer for which all of them are integers, and this factor.
func whole(list []api.Rat) ([]api.Int, api.Int) {
	factor := api.Int("1")
	for _, x := range list {
		factor = value(bigint.Lcm(factor, value(rational.Den(x))))
	}
	return mapped(list, func(x api.Rat) api.Int {
		return api.Int(value(rational.Mul(x, api.Rat(factor))))
	}), factor
}
