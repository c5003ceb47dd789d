package interval

import (
	"cmp"

	"surveyor/api"
	"surveyor/bigint"
	"surveyor/number"
)

// bound is a value, or, where that is missing, a place below or above all values.
type bound[T any] struct {
	side  int // -1 below, 1 above, 0 if the value is not missing
	value T
}

// at returns the bound with a value.
func at[T any](value T) bound[T] {
	return bound[T]{value: value}
}

// missing returns the bound without a value.
func missing[T any](side int) bound[T] {
	return bound[T]{side: side}
}

func (b bound[T]) isMissing() bool {
	return b.side != 0
}

// moved returns the bound whose value is that of a function, if there is a value.
func (b bound[T]) moved(function func(value T) T) bound[T] {
	if b.isMissing() {
		return b
	}
	return at(function(b.value))
}

// compared returns -1, 0 or 1 for bounds whose values are ordered by a function.
func (b bound[T]) compared(c bound[T], order func(x, y T) int) int {
	if b.isMissing() || c.isMissing() {
		return cmp.Compare(b.side, c.side)
	}
	return order(b.value, c.value)
}

// end is a bound of an interval.
type end = bound[api.Int]

// endOf returns the end with a text, which is on a side of all integers if the text is empty.
func endOf(text api.Int, side int) end {
	if text == "" {
		return missing[api.Int](side)
	}
	return at(text)
}

// text returns the integer, or nothing if it is missing or has too many digits.
func text(b end) api.Int {
	if b.isMissing() || number.IsLong(b.value) {
		return ""
	}
	return b.value
}

// order returns -1, 0 or 1 if b is below, at, or above c.
func order(b, c end) int {
	return b.compared(c, func(x, y api.Int) int { return number.Sure(bigint.Compare(x, y)) })
}

func lower(b, c end) end {
	if order(b, c) <= 0 {
		return b
	}
	return c
}

func upper(b, c end) end {
	if order(b, c) >= 0 {
		return b
	}
	return c
}

// negated returns the opposite end.
func negated(b end) end {
	if b.isMissing() {
		return missing[api.Int](-b.side)
	}
	return at(number.Sure(bigint.Neg(b.value)))
}

// shifted returns the end that is moved by an integer.
func shifted(b end, by api.Int) end {
	return b.moved(func(value api.Int) api.Int { return number.Sure(bigint.Add(value, by)) })
}

// signOf returns -1, 0 or 1, also for ends without an integer.
func signOf(b end) int {
	return order(b, at[api.Int]("0"))
}
