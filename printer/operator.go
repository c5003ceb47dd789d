package printer

import "surveyor/api"

// none is no strength, and no kind.
const none = -1

// Strengths of what stands where an operand does. What is stronger binds stronger.
const (
	disjunction = iota
	conjunction
	negation
	comparison
	sum
	product
	minus
	unit
)

// operator is an operator with its own strength, and the least ones of its operands.
type operator struct {
	kind                  int
	text                  string
	strength, left, right int
}

var operators = [...]operator{
	{api.NodeBinary, "or", disjunction, disjunction, conjunction},
	{api.NodeBinary, "and", conjunction, conjunction, negation},
	{api.NodeUnary, "not", negation, none, negation},
	{api.NodeBinary, "=", comparison, sum, sum},
	{api.NodeBinary, "!=", comparison, sum, sum},
	{api.NodeBinary, "<", comparison, sum, sum},
	{api.NodeBinary, "<=", comparison, sum, sum},
	{api.NodeBinary, ">", comparison, sum, sum},
	{api.NodeBinary, ">=", comparison, sum, sum},
	{api.NodeBinary, "+", sum, sum, product},
	{api.NodeBinary, "-", sum, sum, product},
	{api.NodeBinary, "*", product, product, minus},
	{api.NodeBinary, "/", product, product, minus},
	{api.NodeBinary, "%", product, product, minus},
	{api.NodeUnary, "-", minus, none, minus},
}

// operatorOf returns the operator of nodes of a kind with a text. Its strength is none if there is no such operator.
func operatorOf(kind int, text string) operator {
	for _, o := range operators {
		if o.kind == kind && o.text == text {
			return o
		}
	}
	return operator{strength: none}
}

// strengthOf returns how strongly the top of a condition or an expression binds.
func strengthOf(t api.Syntax) int {
	if o := operatorOf(t.Kind, t.Text); o.strength != none {
		return o.strength
	}
	return unit
}
