package expr

import (
	"surveyor/api"
	"surveyor/linear"
)

// Fold returns the expression in which nodes whose operands are numbers are replaced by their values.
func Fold(e api.Expr, n int) (api.Expr, api.Errno) {
	if fault := Check(e, n); fault != api.OK {
		return api.Expr{}, fault
	}
	return folded(e), api.OK
}

func folded(e api.Expr) api.Expr {
	return walk(e, func(node api.Expr, below func(api.Expr) api.Expr) api.Expr {
		return computed(rewritten(node, below))
	})
}

// computed returns the number with the value of a node, if its operands are numbers and it has a value, and the node otherwise.
func computed(node api.Expr) api.Expr {
	if len(node.Args) == 0 {
		return node
	}
	var numbers values
	for _, operand := range node.Args {
		if operand.Op != api.ExprNum {
			return node
		}
		numbers = append(numbers, operand.Num)
	}
	value, fault := numbers.compute(node.Op)
	if fault != api.OK {
		return node
	}
	return api.Expr{Op: api.ExprNum, Num: value}
}

// Linear returns the linear form of the folded expression, if it has one.
func Linear(e api.Expr, n int) (api.Linear, bool, api.Errno) {
	if fault := Check(e, n); fault != api.OK {
		return api.Linear{}, false, fault
	}
	result := walk(folded(e), func(node api.Expr, below func(api.Expr) form) form {
		switch node.Op {
		case api.ExprNum:
			return formOf(linear.Constant(n, api.Rat(node.Num)))
		case api.ExprVar:
			return formOf(linear.Variable(n, node.Var))
		}
		return combined(node.Op, mapped(node.Args, below))
	})
	return result.linear, result.exists, api.OK
}

// form is a linear form, or none.
type form struct {
	linear api.Linear
	exists bool
}

// formOf returns the form of a result of package linear, whose only error here is a number with too many digits.
func formOf(l api.Linear, fault api.Errno) form {
	return form{l, fault == api.OK}
}

// combined returns the form of a node by those of its operands.
func combined(op int, parts []form) form {
	for _, part := range parts {
		if !part.exists {
			return form{}
		}
	}
	switch op {
	case api.ExprNeg:
		return scaled(parts[0], "-1")
	case api.ExprAdd:
		return formOf(linear.Add(parts[0].linear, parts[1].linear))
	case api.ExprSub:
		return formOf(linear.Add(parts[0].linear, scaled(parts[1], "-1").linear))
	case api.ExprMul:
		return multiplied(parts[0], parts[1])
	}
	return form{}
}

func scaled(f form, c api.Rat) form {
	return formOf(linear.Scale(f.linear, c))
}

func multiplied(a, b form) form {
	switch {
	case a.isConstant():
		return scaled(b, a.linear.Const)
	case b.isConstant():
		return scaled(a, b.linear.Const)
	}
	return form{}
}

func (f form) isConstant() bool {
	mask, _ := linear.Vars(f.linear)
	return mask == 0
}

// Substitute returns e with the expression by in place of variable i.
func Substitute(e api.Expr, n, i int, by api.Expr) (api.Expr, api.Errno) {
	if fault := Check(e, n); fault != api.OK {
		return api.Expr{}, fault
	}
	if fault := Check(by, n); fault != api.OK {
		return api.Expr{}, fault
	}
	if i < 0 || i >= n {
		return api.Expr{}, api.ErrNone
	}
	result := walk(e, func(node api.Expr, below func(api.Expr) api.Expr) api.Expr {
		if node.Op == api.ExprVar && node.Var == i {
			return clone(by)
		}
		return rewritten(node, below)
	})
	if fault := checkSize(result); fault != api.OK {
		return api.Expr{}, fault
	}
	return result, api.OK
}

// Rename returns the expression over n variables with variable to[i] in place of each variable i that occurs.
func Rename(e api.Expr, to []int, n int) (api.Expr, api.Errno) {
	if fault := Check(e, len(to)); fault != api.OK {
		return api.Expr{}, fault
	}
	if !isSize(n) {
		return api.Expr{}, api.ErrRange
	}
	result := walk(e, func(node api.Expr, below func(api.Expr) api.Expr) api.Expr {
		if node.Op == api.ExprVar {
			node.Var = to[node.Var]
		}
		return rewritten(node, below)
	})
	// Nothing else can be wrong now than a variable that does not exist.
	if fault := Check(result, n); fault != api.OK {
		return api.Expr{}, fault
	}
	return result, api.OK
}

// Format returns the text of an expression over variables with these names, with as few parentheses as it can have.
func Format(e api.Expr, names []string) (string, api.Errno) {
	if fault := Check(e, len(names)); fault != api.OK {
		return "", fault
	}
	return walk(e, func(node api.Expr, below func(api.Expr) string) string {
		o, _ := operationOf(node.Op)
		switch node.Op {
		case api.ExprNum:
			return string(node.Num)
		case api.ExprVar:
			return names[node.Var]
		case api.ExprNeg:
			return o.sign + enclosed(node.Args[0], o.right, below)
		}
		return enclosed(node.Args[0], o.left, below) + " " + o.sign + " " + enclosed(node.Args[1], o.right, below)
	}), api.OK
}

// enclosed returns the text of an operand, in parentheses if it binds too weakly. A negative number is never too weak, as no operand has to be a unit.
func enclosed(operand api.Expr, least int, write func(api.Expr) string) string {
	o, _ := operationOf(operand.Op)
	if o.strength < least {
		return "(" + write(operand) + ")"
	}
	return write(operand)
}
