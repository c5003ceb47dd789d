package resolve

import (
	"slices"

	"surveyor/api"
)

// Sorts of operators.
const (
	arithmetic = iota // of expressions, for expressions
	comparison        // of expressions, for conditions
	connective        // of conditions, for conditions
)

// operator says what nodes of a kind with a text become. Constants of conditions are operators without operands.
type operator struct {
	kind      int
	text      string
	sort      int
	op        int
	exchanged bool // the operands
}

var operators = [...]operator{
	{api.NodeUnary, "-", arithmetic, api.ExprNeg, false},
	{api.NodeBinary, "+", arithmetic, api.ExprAdd, false},
	{api.NodeBinary, "-", arithmetic, api.ExprSub, false},
	{api.NodeBinary, "*", arithmetic, api.ExprMul, false},
	{api.NodeBinary, "/", arithmetic, api.ExprDiv, false},
	{api.NodeBinary, "%", arithmetic, api.ExprMod, false},
	{api.NodeBinary, "=", comparison, api.CondEq, false},
	{api.NodeBinary, "!=", comparison, api.CondNe, false},
	{api.NodeBinary, "<", comparison, api.CondLt, false},
	{api.NodeBinary, "<=", comparison, api.CondLe, false},
	{api.NodeBinary, ">", comparison, api.CondLt, true},
	{api.NodeBinary, ">=", comparison, api.CondLe, true},
	{api.NodeTruth, "true", connective, api.CondTrue, false},
	{api.NodeTruth, "false", connective, api.CondFalse, false},
	{api.NodeUnary, "not", connective, api.CondNot, false},
	{api.NodeBinary, "and", connective, api.CondAnd, false},
	{api.NodeBinary, "or", connective, api.CondOr, false},
}

// operatorOf returns the operator of a node, if it has one.
func operatorOf(t api.Syntax) (operator, bool) {
	for _, o := range operators {
		if o.kind == t.Kind && o.text == t.Text {
			return o, true
		}
	}
	return operator{}, false
}

// translator makes expressions and conditions of trees. Its function returns the variable of a place, or ends the work.
type translator struct {
	variable func(place api.Syntax) int
}

func (m translator) expression(t api.Syntax) api.Expr {
	m.check(t, false)
	return m.expr(t)
}

func (m translator) condition(t api.Syntax) api.Cond {
	m.check(t, true)
	return m.cond(t)
}

// visit is a node that is to be checked.
type visit struct {
	node        *api.Syntax
	isCondition bool // whether it has to be one
	depth       int
}

// check ends the work at the first error in a condition or an expression, and of it as a whole. It keeps a list of the nodes to come, as trees can be deeper than calls.
func (m translator) check(t api.Syntax, isCondition bool) {
	count, deepest := 0, 0
	pending := []visit{{&t, isCondition, 1}}
	for len(pending) > 0 {
		v := pending[len(pending)-1]
		pending = pending[:len(pending)-1]
		count++
		deepest = max(deepest, v.depth)
		operands := m.operands(v)
		slices.Reverse(operands)
		pending = append(pending, operands...)
	}
	must(count <= api.MaxNodes, t.At, api.ErrMany)
	must(deepest <= api.MaxDepth, t.At, api.ErrDeep)
}

// operands returns what is to be checked below a node, or ends the work at an error of the node alone. The expressions of a comparison have depths of their own.
func (m translator) operands(v visit) []visit {
	t := v.node
	switch {
	case t.Kind == api.NodeNumber && !v.isCondition:
		return nil
	case t.Kind == api.NodePlace && !v.isCondition:
		m.variable(*t)
		return nil
	}
	o, known := operatorOf(*t)
	must(known && v.isCondition == (o.sort != arithmetic), t.At, api.ErrType)
	depth := v.depth + 1
	if o.sort == comparison {
		depth = 1
	}
	list := make([]visit, len(t.Kids))
	for i := range list {
		list[i] = visit{&t.Kids[i], o.sort == connective, depth}
	}
	return list
}

func (m translator) expr(t api.Syntax) api.Expr {
	switch t.Kind {
	case api.NodeNumber:
		return api.Expr{Op: api.ExprNum, Num: api.Int(t.Text)}
	case api.NodePlace:
		return api.Expr{Op: api.ExprVar, Var: m.variable(t)}
	}
	o, _ := operatorOf(t)
	return api.Expr{Op: o.op, Args: mapped(t.Kids, m.expr)}
}

func (m translator) cond(t api.Syntax) api.Cond {
	o, _ := operatorOf(t)
	if o.sort == connective {
		return api.Cond{Op: o.op, Args: mapped(t.Kids, m.cond)}
	}
	exprs := mapped(t.Kids, m.expr)
	if o.exchanged {
		slices.Reverse(exprs)
	}
	return api.Cond{Op: o.op, Exprs: exprs}
}
