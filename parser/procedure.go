package parser

import (
	"strconv"

	"surveyor/api"
)

func (r *reader) program() api.Syntax {
	at := r.here()
	var kids []api.Syntax
	for {
		switch {
		case r.is("record"):
			kids = append(kids, r.record())
		case r.is("proc"), r.is("import"):
			kids = append(kids, r.procedure())
		default:
			return node(api.NodeProgram, at, "", kids...)
		}
	}
}

func (r *reader) record() api.Syntax {
	first := r.expect("record")
	name := r.name()
	r.expect("{")
	fields := r.list(r.bare)
	r.expect("}")
	return node(api.NodeRecord, first.At, name.Text, fields...)
}

func (r *reader) procedure() api.Syntax {
	at := r.here()
	isImport := r.accept("import")
	r.expect("proc")
	name := r.name()
	kids := []api.Syntax{r.parameters(), r.results(), r.when("requires"), r.when("ensures")}
	if isImport {
		r.expect(";")
	} else {
		kids = append(kids, r.body())
	}
	return node(api.NodeProc, at, name.Text, kids...)
}

func (r *reader) parameters() api.Syntax {
	opening := r.expect("(")
	list := r.listBefore(")", r.parameter)
	r.expect(")")
	return node(api.NodeList, opening.At, "", list...)
}

func (r *reader) results() api.Syntax {
	if !r.accept("returns") {
		return node(api.NodeList, r.here(), "")
	}
	opening := r.expect("(")
	list := r.list(r.parameter)
	r.expect(")")
	return node(api.NodeList, opening.At, "", list...)
}

func (r *reader) parameter() api.Syntax {
	name := r.name()
	return node(api.NodeParam, name.At, name.Text, r.behind(":")...)
}

// when reads a word and the condition behind it, if the word is there.
func (r *reader) when(word string) api.Syntax {
	at := r.here()
	if !r.accept(word) {
		return node(api.NodeWhen, at, "")
	}
	return node(api.NodeWhen, at, "", r.condition())
}

// body reads the block of a procedure.
func (r *reader) body() api.Syntax {
	opening := r.enter("{")
	kids := append(r.declarations(), r.statementList()...)
	r.expect("}")
	r.leave()
	return node(api.NodeBlock, opening.At, "", kids...)
}

func (r *reader) declarations() []api.Syntax {
	var list []api.Syntax
	for {
		switch {
		case r.is("var"):
			list = append(list, r.variables())
		case r.is("array"):
			list = append(list, r.array())
		default:
			return list
		}
	}
}

func (r *reader) variables() api.Syntax {
	first := r.expect("var")
	list := r.list(r.parameter)
	r.expect(";")
	return node(api.NodeVar, first.At, "", list...)
}

func (r *reader) array() api.Syntax {
	first := r.expect("array")
	tree := node(api.NodeArray, first.At, r.name().Text)
	r.expect("[")
	tree.Num = r.length()
	r.expect("]")
	r.expect(";")
	return tree
}

func (r *reader) length() int {
	number := r.number()
	length, fault := strconv.Atoi(number.Text)
	if fault != nil || length > api.MaxNumber {
		r.fail(number.At, api.ErrRange)
	}
	return length
}
