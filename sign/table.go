package sign

import (
	"iter"

	"surveyor/api"
)

// Sets of signs.
const (
	none     = 0
	negative = 1
	zero     = 2
	positive = 4

	nonpositive = negative | zero
	nonzero     = negative | positive
	nonnegative = zero | positive
	all         = negative | zero | positive
)

var names = [...]string{
	none:        "none",
	negative:    "negative",
	zero:        "zero",
	nonpositive: "nonpositive",
	positive:    "positive",
	nonzero:     "nonzero",
	nonnegative: "nonnegative",
	all:         "any",
}

// places yields the places in tables of the signs of a set: 0 for negative, 1 for zero, 2 for positive.
func places(s int) iter.Seq[int] {
	return func(yield func(int) bool) {
		for place := range 3 {
			if s>>place&1 == 1 && !yield(place) {
				return
			}
		}
	}
}

// Operations on two integers.
const (
	sum = iota
	difference
	product
	quotient
	remainder
)

// results has the signs of all results of an operation for an integer of the sign in a row and one of the sign in a column.
var results = [...][3][3]int{
	sum: {
		{negative, negative, all},
		{negative, zero, positive},
		{all, positive, positive},
	},
	difference: {
		{all, negative, negative},
		{positive, zero, negative},
		{positive, positive, all},
	},
	product: {
		{positive, zero, negative},
		{zero, zero, zero},
		{negative, zero, positive},
	},
	// Rounding down leaves no quotient 0 where the signs differ.
	quotient: {
		{nonnegative, none, negative},
		{zero, none, zero},
		{negative, none, nonnegative},
	},
	remainder: {
		{nonpositive, none, nonnegative},
		{zero, none, zero},
		{nonpositive, none, nonnegative},
	},
}

// partners has the signs of the integers with which some integer of a sign makes a comparison true.
var partners = [...][3]int{
	api.CondEq: {negative, zero, positive},
	api.CondNe: {all, nonzero, all},
	api.CondLt: {all, positive, positive},
	api.CondLe: {all, nonnegative, positive},
}
