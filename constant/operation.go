package constant

import (
	"surveyor/api"
	"surveyor/bigint"
)

// Neg returns the negative integers of an element's.
func Neg(a Element) (Element, api.Errno) {
	if e := Check(a); e != api.OK {
		return Element{}, e
	}
	return negation(a), api.OK
}

func negation(a Element) Element {
	if a.Kind == One {
		a.Num, _ = bigint.Neg(a.Num)
	}
	return a
}

// Compute returns the results of an operation of expressions.
func Compute(op int, a, b Element) (Element, api.Errno) {
	operation, known := operations()[op]
	if !known {
		return Element{}, api.ErrArg
	}
	return combine(a, b, operation.results)
}

// operation is an operation of expressions on two elements that have integers.
type operation func(a, b Element) Element

// results returns the results of an operation for all elements. Without an integer there is no result.
func (o operation) results(a, b Element) Element {
	if a.Kind == None || b.Kind == None {
		return Element{Kind: None}
	}
	return o(a, b)
}

// operations returns the operations by their numbers.
func operations() map[int]operation {
	zero := Element{One, "0"}
	return map[int]operation{
		api.ExprAdd: func(a, b Element) Element { return computed(bigint.Add, a, b) },
		api.ExprSub: func(a, b Element) Element { return computed(bigint.Sub, a, b) },
		api.ExprMul: func(a, b Element) Element {
			if a == zero || b == zero {
				return zero
			}
			return computed(bigint.Mul, a, b)
		},
		api.ExprDiv: func(a, b Element) Element {
			switch {
			case b == zero:
				return Element{Kind: None}
			case a == zero:
				return zero
			}
			return computed(bigint.Quo, a, b)
		},
		api.ExprMod: func(a, b Element) Element {
			switch {
			case b == zero:
				return Element{Kind: None}
			case a == zero, b.Num == "1", b.Num == "-1":
				return zero
			}
			return computed(bigint.Rem, a, b)
		},
	}
}

// computed returns the result for two known integers. If one of them is not known, neither is the result, as it can be more than one integer.
func computed(compute func(a, b api.Int) (api.Int, api.Errno), a, b Element) Element {
	if a.Kind == Any || b.Kind == Any {
		return Element{Kind: Any}
	}
	value, _ := compute(a.Num, b.Num)
	result, e := Of(value)
	if e != api.OK { // there are too many digits
		return Element{Kind: Any}
	}
	return result
}

// comparisons returns the comparisons by their numbers: whether they are true for two integers in an order, as bigint.Compare returns it.
func comparisons() map[int]func(order int) bool {
	return map[int]func(order int) bool{
		api.CondEq: func(order int) bool { return order == 0 },
		api.CondNe: func(order int) bool { return order != 0 },
		api.CondLt: func(order int) bool { return order < 0 },
		api.CondLe: func(order int) bool { return order <= 0 },
	}
}

// isTrue reports whether a comparison is true for two known integers.
func isTrue(op int, a, b Element) bool {
	order, _ := bigint.Compare(a.Num, b.Num)
	return comparisons()[op](order)
}

// Refine returns the operands for which a comparison can be true.
func Refine(op int, a, b Element) (Element, Element, api.Errno) {
	if _, known := comparisons()[op]; !known {
		return Element{}, Element{}, api.ErrArg
	}
	if e := checkAll(a, b); e != api.OK {
		return Element{}, Element{}, e
	}
	left, right := refined(op, a, b)
	return left, right, api.OK
}

// refined returns the operands for which a comparison can be true. But for CondEq, one that is compared with all integers remains, as the comparison is true for some of them.
func refined(op int, a, b Element) (Element, Element) {
	switch {
	case op == api.CondEq:
		both := intersection(a, b)
		return both, both
	case a.Kind == None, b.Kind == None, a.Kind == One && b.Kind == One && !isTrue(op, a, b):
		return Element{Kind: None}, Element{Kind: None}
	}
	return a, b
}
