package resolve

import "surveyor/api"

// statement resolves a statement, to more than one if it assigns a record.
func (p *procedure) statement(t api.Syntax, depth int) []api.Stmt {
	must(depth <= api.MaxDepth, t.At, api.ErrDeep)
	var list []api.Stmt
	switch t.Kind {
	case api.NodeIf, api.NodeWhile:
		p.count(t, 1)
		list = []api.Stmt{p.compound(t, depth)}
	default:
		list = p.simple(t)
		p.count(t, len(list))
	}
	for i := range list {
		list[i].At = t.At
	}
	return list
}

// count counts the statements of a node.
func (p *procedure) count(t api.Syntax, n int) {
	p.statements += n
	must(p.statements <= api.MaxStmts, t.At, api.ErrMany)
}

// compound resolves a statement with statements within it.
func (p *procedure) compound(t api.Syntax, depth int) api.Stmt {
	s := api.Stmt{Op: api.StmtWhile, Cond: p.condition(t.Kids[0])}
	if t.Kind == api.NodeIf {
		s.Op = api.StmtIf
	}
	s.Body = p.block(t.Kids[1], depth+1)
	for _, otherwise := range t.Kids[2:] {
		s.Else = p.block(otherwise, depth+1)
	}
	return s
}

// block resolves the statements of a block, or the one that stands behind else in place of a block.
func (p *procedure) block(t api.Syntax, depth int) []api.Stmt {
	if t.Kind == api.NodeIf {
		return p.statement(t, depth)
	}
	var list []api.Stmt
	for _, kid := range t.Kids {
		list = append(list, p.statement(kid, depth)...)
	}
	return list
}

// simple resolves a statement with no statements within it.
func (p *procedure) simple(t api.Syntax) []api.Stmt {
	switch t.Kind {
	case api.NodeAssign:
		return p.assignment(t)
	case api.NodeStore:
		return []api.Stmt{p.store(t)}
	case api.NodeAssert:
		return []api.Stmt{{Op: api.StmtAssert, Cond: p.condition(t.Kids[0])}}
	}
	return []api.Stmt{{Op: api.StmtAssume, Cond: p.condition(t.Kids[0])}}
}

func (p *procedure) store(t api.Syntax) api.Stmt {
	array := p.array(t.Text, t.At)
	index := p.expression(t.Kids[0])
	return api.Stmt{Op: api.StmtStore, Array: array, Index: index, Expr: p.expression(t.Kids[1])}
}

func (p *procedure) assignment(t api.Syntax) []api.Stmt {
	places := p.targets(t.Kids[0])
	right := t.Kids[1]
	switch right.Kind {
	case api.NodeInput:
		return []api.Stmt{{Op: api.StmtInput, Var: single(t, places).integerAt(right)}}
	case api.NodeLoad:
		array := p.array(right.Text, right.At)
		index := p.expression(right.Kids[0])
		return []api.Stmt{{Op: api.StmtLoad, Var: single(t, places).integerAt(right), Array: array, Index: index}}
	case api.NodeCall:
		return []api.Stmt{p.call(t, places)}
	}
	place := single(t, places)
	var list []api.Stmt
	for i, value := range p.values(right, place.record) {
		list = append(list, api.Stmt{Op: api.StmtAssign, Var: place.first + i, Expr: value})
	}
	return list
}

// targets returns what the places on the left of an assignment stand for.
func (p *procedure) targets(t api.Syntax) []group {
	var places []group
	var assigned [api.MaxVars]bool
	for _, kid := range t.Kids {
		place := p.place(kid)
		must(place.first >= total(p.params), kid.At, api.ErrUse)
		for _, i := range place.indices() {
			must(!assigned[i], kid.At, api.ErrTwice)
			assigned[i] = true
		}
		places = append(places, place)
	}
	return places
}

// single returns the only place of an assignment that has to have one.
func single(t api.Syntax, places []group) group {
	must(len(places) == 1, t.At, api.ErrShape)
	return places[0]
}

// integerAt returns the variable of an integer to which the right side is assigned.
func (g group) integerAt(right api.Syntax) int {
	must(g.record == "", right.At, api.ErrType)
	return g.first
}

// values resolves what is assigned to a variable of a type, or passed to a parameter of it: one expression for each variable.
func (p *procedure) values(t api.Syntax, record string) []api.Expr {
	if record == "" {
		return []api.Expr{p.expression(t)}
	}
	must(t.Kind == api.NodePlace, t.At, api.ErrType)
	place := p.place(t)
	must(place.record == record, t.At, api.ErrType)
	return mapped(place.indices(), func(i int) api.Expr { return api.Expr{Op: api.ExprVar, Var: i} })
}

func (p *procedure) call(t api.Syntax, places []group) api.Stmt {
	right := t.Kids[1]
	index, known := p.program.indices[right.Text]
	must(known, right.At, api.ErrName)
	callee := p.program.procedures[index]
	must(len(right.Kids) == len(callee.params), right.At, api.ErrShape)
	s := api.Stmt{Op: api.StmtCall, Proc: index}
	for i, argument := range right.Kids {
		s.Args = append(s.Args, p.values(argument, callee.params[i].record)...)
	}
	must(len(places) == len(callee.results), t.At, api.ErrShape)
	for i, place := range places {
		must(place.record == callee.results[i].record, t.Kids[0].Kids[i].At, api.ErrType)
		s.Results = append(s.Results, place.indices()...)
	}
	return s
}
