package printer

import (
	"strconv"
	"strings"

	"surveyor/api"
)

// writer writes the text of a well-formed tree, or the beginning of one that is too long.
type writer struct {
	text   strings.Builder
	indent int
	parts  map[int]part
}

func (w *writer) isTooLong() bool {
	return w.text.Len() > api.MaxText
}

func (w *writer) add(text string) {
	if !w.isTooLong() {
		w.text.WriteString(text)
	}
}

// node writes a node as its kind is written.
func (w *writer) node(t api.Syntax) {
	if !w.isTooLong() {
		w.parts[t.Kind].write(w, t)
	}
}

// condition writes what stands where a condition does.
func (w *writer) condition(t api.Syntax) {
	w.operand(t, disjunction)
}

// expression writes what stands where an expression does.
func (w *writer) expression(t api.Syntax) {
	w.operand(t, sum)
}

// operand writes a condition or an expression, with parentheses if it does not bind as strongly as it must there.
func (w *writer) operand(t api.Syntax, least int) {
	if strengthOf(t) >= least {
		w.node(t)
		return
	}
	w.add("(")
	w.node(t)
	w.add(")")
}

// separated writes nodes with commas between them.
func (w *writer) separated(list []api.Syntax, write func(api.Syntax)) {
	for i, t := range list {
		if i > 0 {
			w.add(", ")
		}
		write(t)
	}
}

func (w *writer) list(t api.Syntax) {
	w.separated(t.Kids, w.node)
}

// conditions writes the condition of a node, if it has one.
func (w *writer) conditions(t api.Syntax) {
	w.separated(t.Kids, w.condition)
}

func (w *writer) word(t api.Syntax) {
	w.add(t.Text)
}

func (w *writer) input(api.Syntax) {
	w.add("input")
}

// after writes the text of a node and, if it has a kid, a sign and the kid behind it.
func (w *writer) after(t api.Syntax, sign string) {
	w.word(t)
	if len(t.Kids) > 0 {
		w.add(sign)
		w.list(t)
	}
}

func (w *writer) param(t api.Syntax) {
	w.after(t, " : ")
}

func (w *writer) place(t api.Syntax) {
	w.after(t, ".")
}

func (w *writer) element(t api.Syntax) {
	w.add(t.Text + "[")
	w.expression(t.Kids[0])
	w.add("]")
}

func (w *writer) call(t api.Syntax) {
	w.add(t.Text + "(")
	w.separated(t.Kids, w.expression)
	w.add(")")
}

func (w *writer) unary(t api.Syntax) {
	w.add(t.Text)
	if t.Text == "not" {
		w.add(" ")
	}
	w.operand(t.Kids[0], operatorOf(t.Kind, t.Text).right)
}

func (w *writer) binary(t api.Syntax) {
	o := operatorOf(t.Kind, t.Text)
	w.operand(t.Kids[0], o.left)
	w.add(" " + t.Text + " ")
	w.operand(t.Kids[1], o.right)
}

func (w *writer) array(t api.Syntax) {
	w.add("array " + t.Text + "[" + strconv.Itoa(t.Num) + "];")
}
