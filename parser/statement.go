package parser

import "surveyor/api"

// anyName is the key under which statements are found that begin with a name. It is a name itself, so nothing else has it.
const anyName = "name"

// statementStarts returns what reads the statements that begin with a token.
func (r *reader) statementStarts() map[string]func() api.Syntax {
	return map[string]func() api.Syntax{
		anyName:  r.assignment,
		"if":     r.choice,
		"while":  r.loop,
		"assert": func() api.Syntax { return r.claim(api.NodeAssert) },
		"assume": func() api.Syntax { return r.claim(api.NodeAssume) },
	}
}

// statementList reads statements as long as one begins.
func (r *reader) statementList() []api.Syntax {
	var list []api.Syntax
	for {
		read, begins := r.statements[r.start()]
		if !begins {
			return list
		}
		list = append(list, read())
	}
}

// start returns the key of the statement that begins with the current token.
func (r *reader) start() string {
	if r.isName() {
		return anyName
	}
	return r.token().Text
}

func (r *reader) block() api.Syntax {
	opening := r.enter("{")
	list := r.statementList()
	r.expect("}")
	r.leave()
	return node(api.NodeBlock, opening.At, "", list...)
}

func (r *reader) choice() api.Syntax {
	return r.branches(r.expect("if"))
}

// branches reads what is behind the word if. An if behind else is within the one before it.
func (r *reader) branches(word api.Token) api.Syntax {
	kids := []api.Syntax{r.condition(), r.block()}
	if r.accept("else") {
		if r.is("if") {
			kids = append(kids, r.branches(r.enter("if")))
			r.leave()
		} else {
			kids = append(kids, r.block())
		}
	}
	return node(api.NodeIf, word.At, "", kids...)
}

func (r *reader) loop() api.Syntax {
	word := r.expect("while")
	condition := r.condition()
	return node(api.NodeWhile, word.At, "", condition, r.block())
}

// claim reads a word and a condition.
func (r *reader) claim(kind int) api.Syntax {
	word := r.take()
	condition := r.condition()
	r.expect(";")
	return node(kind, word.At, "", condition)
}

// assignment reads a statement that begins with a name.
func (r *reader) assignment() api.Syntax {
	at := r.here()
	var tree api.Syntax
	switch r.following() {
	case "[":
		tree = r.store()
	case "(":
		tree = node(api.NodeAssign, at, "", node(api.NodeList, at, ""), r.call())
	default:
		places := node(api.NodeList, at, "", r.list(r.place)...)
		r.expect(":=")
		tree = node(api.NodeAssign, at, "", places, r.right())
	}
	r.expect(";")
	return tree
}

// right reads the right side of an assignment.
func (r *reader) right() api.Syntax {
	switch {
	case r.is("input"):
		return node(api.NodeInput, r.take().At, "")
	case r.isName() && r.following() == "[":
		return r.load()
	case r.isName() && r.following() == "(":
		return r.call()
	}
	return r.expression()
}

func (r *reader) load() api.Syntax {
	array := r.name()
	r.expect("[")
	index := r.expression()
	r.expect("]")
	return node(api.NodeLoad, array.At, array.Text, index)
}

func (r *reader) store() api.Syntax {
	element := r.load()
	r.expect(":=")
	return node(api.NodeStore, element.At, element.Text, element.Kids[0], r.expression())
}

func (r *reader) call() api.Syntax {
	procedure := r.name()
	r.expect("(")
	arguments := r.listBefore(")", r.expression)
	r.expect(")")
	return node(api.NodeCall, procedure.At, procedure.Text, arguments...)
}
