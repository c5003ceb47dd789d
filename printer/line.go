package printer

import (
	"strings"

	"surveyor/api"
)

// step is by what the lines of a block are indented.
const step = "  "

// line writes a node in lines of its own.
func (w *writer) line(t api.Syntax) {
	w.add(strings.Repeat(step, w.indent))
	w.node(t)
	w.add("\n")
}

func (w *writer) lines(t api.Syntax) {
	for _, kid := range t.Kids {
		w.line(kid)
	}
}

// block writes the lines of a block, from the brace in the line that begins it to the one in the line behind them.
func (w *writer) block(t api.Syntax) {
	w.add("{\n")
	w.indent++
	w.lines(t)
	w.indent--
	w.add(strings.Repeat(step, w.indent) + "}")
}

func (w *writer) record(t api.Syntax) {
	w.add("record " + t.Text + " { ")
	w.list(t)
	w.add(" }")
}

func (w *writer) procedure(t api.Syntax) {
	isImport := len(t.Kids) == 4
	if isImport {
		w.add("import ")
	}
	w.add("proc " + t.Text + "(")
	w.node(t.Kids[0])
	w.add(")")
	w.optional(" returns (", t.Kids[1], ")")
	w.optional(" requires ", t.Kids[2], "")
	w.optional(" ensures ", t.Kids[3], "")
	if isImport {
		w.add(";")
		return
	}
	w.add(" ")
	w.node(t.Kids[4])
}

// optional writes a node with what is around it, if it has kids.
func (w *writer) optional(before string, t api.Syntax, behind string) {
	if len(t.Kids) > 0 {
		w.add(before)
		w.node(t)
		w.add(behind)
	}
}

func (w *writer) variables(t api.Syntax) {
	w.add("var ")
	w.list(t)
	w.add(";")
}

func (w *writer) assignment(t api.Syntax) {
	w.optional("", t.Kids[0], " := ")
	w.right(t.Kids[1])
	w.add(";")
}

// right writes the right side of an assignment.
func (w *writer) right(t api.Syntax) {
	if conditions.has(t.Kind) {
		w.expression(t)
		return
	}
	w.node(t)
}

func (w *writer) store(t api.Syntax) {
	w.element(t)
	w.add(" := ")
	w.expression(t.Kids[1])
	w.add(";")
}

func (w *writer) choice(t api.Syntax) {
	w.headed("if ", t)
	if len(t.Kids) == 3 {
		w.add(" else ")
		w.node(t.Kids[2])
	}
}

func (w *writer) loop(t api.Syntax) {
	w.headed("while ", t)
}

// headed writes a word, and the condition and the block behind it.
func (w *writer) headed(word string, t api.Syntax) {
	w.add(word)
	w.condition(t.Kids[0])
	w.add(" ")
	w.node(t.Kids[1])
}

func (w *writer) assertion(t api.Syntax) {
	w.claim("assert ", t)
}

func (w *writer) assumption(t api.Syntax) {
	w.claim("assume ", t)
}

// claim writes a word and the condition behind it.
func (w *writer) claim(word string, t api.Syntax) {
	w.add(word)
	w.conditions(t)
	w.add(";")
}
