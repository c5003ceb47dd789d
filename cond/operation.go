package cond

import "surveyor/api"

// Strengths of nodes in texts. What is stronger binds stronger.
const (
	disjunctive = iota
	conjunctive
	prefixed
	unit
)

// operation is what nodes with an Op are: how many expressions and operands they have, which operation their negation has (with exchanged expressions, if it says so), and how they are written. Operands that bind less than left and right say are put in parentheses.
type operation struct {
	exprs, args           int
	negation              int
	exchanged             bool
	text                  string
	strength, left, right int
}

// operations has the operation of each Op. CondNot has no negation of its own, as it is never left in a negation normal form.
var operations = [...]operation{
	api.CondTrue:  {negation: api.CondFalse, text: "true", strength: unit},
	api.CondFalse: {negation: api.CondTrue, text: "false", strength: unit},
	api.CondEq:    {exprs: 2, negation: api.CondNe, text: "=", strength: unit},
	api.CondNe:    {exprs: 2, negation: api.CondEq, text: "!=", strength: unit},
	api.CondLt:    {exprs: 2, negation: api.CondLe, exchanged: true, text: "<", strength: unit},
	api.CondLe:    {exprs: 2, negation: api.CondLt, exchanged: true, text: "<=", strength: unit},
	api.CondNot:   {args: 1, text: "not", strength: prefixed, right: prefixed},
	api.CondAnd:   {args: 2, negation: api.CondOr, text: "and", strength: conjunctive, left: conjunctive, right: prefixed},
	api.CondOr:    {args: 2, negation: api.CondAnd, text: "or", strength: disjunctive, left: disjunctive, right: conjunctive},
}

func isOperation(op int) bool {
	return op >= 0 && op < len(operations)
}
