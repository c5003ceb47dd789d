package cond

import (
	"surveyor/api"
	"surveyor/expr"
)

// Format returns the text of a condition over variables with these names, with as few parentheses as it can have.
func Format(c api.Cond, names []string) (string, api.Errno) {
	if fault := Check(c, len(names)); fault != api.OK {
		return "", fault
	}
	return written(c, names), api.OK
}

func written(c api.Cond, names []string) string {
	o := operations[c.Op]
	switch {
	case o.exprs > 0:
		a, _ := expr.Format(c.Exprs[0], names)
		b, _ := expr.Format(c.Exprs[1], names)
		return a + " " + o.text + " " + b
	case o.args == 0:
		return o.text
	case o.args == 1:
		return o.text + " " + enclosed(c.Args[0], o.right, names)
	}
	return enclosed(c.Args[0], o.left, names) + " " + o.text + " " + enclosed(c.Args[1], o.right, names)
}

// enclosed returns the text of an operand, in parentheses if it binds too weakly.
func enclosed(operand api.Cond, least int, names []string) string {
	if operations[operand.Op].strength < least {
		return "(" + written(operand, names) + ")"
	}
	return written(operand, names)
}
