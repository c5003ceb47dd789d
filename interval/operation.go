package interval

import (
	"iter"

	"surveyor/api"
	"surveyor/bigint"
	"surveyor/number"
)

// Places in the table of operations.
const (
	sum = iota
	product
	quotient // by positive integers
)

// operation is an operation that has its least and its greatest results at corners: pairs of ends of two spans.
type operation struct {
	corners func(s, t span) iter.Seq2[end, end]
	finite  func(x, y api.Int) (api.Int, api.Errno)
	endless func(x, y end) end // where one of both is missing, or both are
}

// operations returns the table of operations.
func operations() [3]operation {
	return [...]operation{
		sum: {facing, bigint.Add, func(x, y end) end {
			if x.isMissing() {
				return x
			}
			return y
		}},
		// By 0 even what is missing remains 0.
		product: {all, bigint.Mul, func(x, y end) end {
			side := signOf(x) * signOf(y)
			if side == 0 {
				return at[api.Int]("0")
			}
			return missing[api.Int](side)
		}},
		// Great divisors leave 0, or -1 of negative integers, as quotients are rounded down.
		quotient: {all, bigint.Quo, func(x, y end) end {
			switch {
			case x.isMissing():
				return x
			case signOf(x) < 0:
				return at[api.Int]("-1")
			}
			return at[api.Int]("0")
		}},
	}
}

// facing yields the pair of the lower ends, and that of the upper ones.
func facing(s, t span) iter.Seq2[end, end] {
	return func(yield func(x, y end) bool) {
		_ = yield(s.low, t.low) && yield(s.high, t.high)
	}
}

// all yields all pairs of an end of s and one of t.
func all(s, t span) iter.Seq2[end, end] {
	return func(yield func(x, y end) bool) {
		for _, x := range [...]end{s.low, s.high} {
			for _, y := range [...]end{t.low, t.high} {
				if !yield(x, y) {
					return
				}
			}
		}
	}
}

// results returns the least span of the results for an integer of s and one of t.
func (o operation) results(s, t span) span {
	results := nothing()
	if s.isEmpty() || t.isEmpty() {
		return results
	}
	for x, y := range o.corners(s, t) {
		results = results.extended(o.result(x, y))
	}
	return results
}

func (o operation) result(x, y end) end {
	if x.isMissing() || y.isMissing() {
		return o.endless(x, y)
	}
	return at(number.Sure(o.finite(x.value, y.value)))
}

func differences(s, t span) span {
	return operations()[sum].results(s, t.negated())
}

// quotients returns those by positive and by negative divisors: that of x and y is that of -x and -y.
func quotients(s, t span) span {
	o := operations()[quotient]
	return union(o.results(s, t.positive()), o.results(s.negated(), t.negated().positive()))
}

// remainders returns those by positive and by negative divisors: that of x and y is the opposite of that of -x and -y.
func remainders(s, t span) span {
	return union(positiveRemainders(s, t.positive()), positiveRemainders(s.negated(), t.negated().positive()).negated())
}

// positiveRemainders returns the remainders by positive divisors.
func positiveRemainders(s, t span) span {
	zero := at[api.Int]("0")
	switch {
	case s.isEmpty() || t.isEmpty():
		return nothing()
	case t.low == t.high:
		return residues(s, t.low)
	case s.isWithin(span{zero, shifted(t.low, "-1")}):
		return s
	}
	high := shifted(t.high, "-1")
	if order(zero, s.low) <= 0 {
		high = lower(high, s.high)
	}
	return span{zero, high}
}

// residues returns the remainders by one positive divisor. Those of integers with the same quotient are in the order of the integers; where the quotient changes, there are the greatest one and 0.
func residues(s span, divisor end) span {
	whole := span{at[api.Int]("0"), shifted(divisor, "-1")}
	if s.low.isMissing() || s.high.isMissing() || quotientOf(s.low, divisor) != quotientOf(s.high, divisor) {
		return whole
	}
	return span{remainderOf(s.low, divisor), remainderOf(s.high, divisor)}
}

func quotientOf(x, y end) api.Int {
	return number.Sure(bigint.Quo(x.value, y.value))
}

func remainderOf(x, y end) end {
	return at(number.Sure(bigint.Rem(x.value, y.value)))
}
