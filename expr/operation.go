package expr

import (
	"surveyor/api"
	"surveyor/bigint"
	"surveyor/number"
)

// values are those of the operands of a node.
type values []api.Int

func (v values) negation() (api.Int, api.Errno)   { return bigint.Neg(v[0]) }
func (v values) sum() (api.Int, api.Errno)        { return bigint.Add(v[0], v[1]) }
func (v values) difference() (api.Int, api.Errno) { return bigint.Sub(v[0], v[1]) }
func (v values) product() (api.Int, api.Errno)    { return bigint.Mul(v[0], v[1]) }
func (v values) quotient() (api.Int, api.Errno)   { return bigint.Quo(v[0], v[1]) }
func (v values) remainder() (api.Int, api.Errno)  { return bigint.Rem(v[0], v[1]) }

// compute returns the value of an operation with these values.
func (v values) compute(op int) (api.Int, api.Errno) {
	operation, _ := operationOf(op)
	value, fault := operation.value(v)
	switch {
	case fault != api.OK:
		return "", fault
	case number.IsLong(value):
		return "", api.ErrLarge
	}
	return value, api.OK
}

// Strengths of nodes in texts. What is stronger binds stronger.
const (
	additive = iota
	multiplicative
	prefixed
	unit
)

// operation is what nodes with an Op are: how many operands and which value they have, and how they are written. Operands that bind less than left and right say are put in parentheses.
type operation struct {
	operands              int
	value                 func(values) (api.Int, api.Errno)
	sign                  string
	strength, left, right int
}

// operationOf returns the operation of an Op, if there is one. Numbers and variables have no operands, and no value by them.
func operationOf(op int) (operation, bool) {
	switch op {
	case api.ExprNum, api.ExprVar:
		return operation{strength: unit}, true
	case api.ExprNeg:
		return operation{operands: 1, value: values.negation, sign: "-", strength: prefixed, right: prefixed}, true
	case api.ExprAdd:
		return operation{2, values.sum, "+", additive, additive, multiplicative}, true
	case api.ExprSub:
		return operation{2, values.difference, "-", additive, additive, multiplicative}, true
	case api.ExprMul:
		return operation{2, values.product, "*", multiplicative, multiplicative, prefixed}, true
	case api.ExprDiv:
		return operation{2, values.quotient, "/", multiplicative, multiplicative, prefixed}, true
	case api.ExprMod:
		return operation{2, values.remainder, "%", multiplicative, multiplicative, prefixed}, true
	}
	return operation{}, false
}
