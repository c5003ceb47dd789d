package parser

import (
	"slices"

	"surveyor/api"
)

// level is one of the levels of operators. Its function reads what stands on it, and gets its index.
type level struct {
	read      func(int) api.Syntax
	operators []string
}

// The levels at which conditions and expressions begin.
const (
	conditions  = 0
	expressions = 4
)

// operatorLevels returns the levels, where what binds stronger comes later.
func (r *reader) operatorLevels() []level {
	return []level{
		{r.repeated, []string{"or"}},
		{r.repeated, []string{"and"}},
		{r.prefixed, []string{"not"}},
		{r.compared, []string{"=", "!=", "<", "<=", ">", ">="}},
		{r.repeated, []string{"+", "-"}},
		{r.repeated, []string{"*", "/", "%"}},
		{r.prefixed, []string{"-"}},
		{r.unit, nil},
	}
}

func (r *reader) condition() api.Syntax {
	return r.level(conditions)
}

func (r *reader) expression() api.Syntax {
	return r.level(expressions)
}

func (r *reader) level(i int) api.Syntax {
	return r.levels[i].read(i)
}

// isOperator reports whether the current token is an operator of a level.
func (r *reader) isOperator(i int) bool {
	return slices.Contains(r.levels[i].operators, r.token().Text)
}

// repeated reads operands with any number of operators between them.
func (r *reader) repeated(i int) api.Syntax {
	at := r.here()
	left := r.level(i + 1)
	for r.isOperator(i) {
		left = r.operation(i, at, left)
	}
	return left
}

// compared reads operands with at most one operator between them.
func (r *reader) compared(i int) api.Syntax {
	at := r.here()
	left := r.level(i + 1)
	if r.isOperator(i) {
		return r.operation(i, at, left)
	}
	return left
}

// operation reads an operator and its right operand. Parentheses around the left one have no node, so the offset is that of the first token.
func (r *reader) operation(i, at int, left api.Syntax) api.Syntax {
	operator := r.take()
	right := r.level(i + 1)
	return node(api.NodeBinary, at, operator.Text, left, right)
}

// prefixed reads an operand with any number of operators in front of it.
func (r *reader) prefixed(i int) api.Syntax {
	if !r.isOperator(i) {
		return r.level(i + 1)
	}
	operator := r.enter(r.token().Text)
	operand := r.level(i)
	r.leave()
	return node(api.NodeUnary, operator.At, operator.Text, operand)
}

// unit reads what has no operators, or has parentheses around it.
func (r *reader) unit(int) api.Syntax {
	switch {
	case r.isNumber():
		number := r.take()
		return node(api.NodeNumber, number.At, number.Text)
	case r.is("true"), r.is("false"):
		truth := r.take()
		return node(api.NodeTruth, truth.At, truth.Text)
	case r.is("("):
		r.enter("(")
		tree := r.condition()
		r.expect(")")
		r.leave()
		return tree
	}
	return r.place()
}

// place reads a name, or a name with a field.
func (r *reader) place() api.Syntax {
	name := r.name()
	return node(api.NodePlace, name.At, name.Text, r.behind(".")...)
}

// behind reads a sign and the name behind it, if the sign is there.
func (r *reader) behind(sign string) []api.Syntax {
	if !r.accept(sign) {
		return nil
	}
	return []api.Syntax{r.bare()}
}

// bare reads a name alone.
func (r *reader) bare() api.Syntax {
	name := r.name()
	return node(api.NodeName, name.At, name.Text)
}
