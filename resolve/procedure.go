package resolve

import "surveyor/api"

// procedure resolves a procedure, in the scope of its names.
type procedure struct {
	scope
	translator
	program         *linker
	tree            api.Syntax
	params, results []group
	requires        api.Cond
	ensures         api.Cond
	statements      int // how many there are so far
}

func newProcedure(l *linker, t api.Syntax) *procedure {
	p := &procedure{scope: newScope(l.fields), program: l, tree: t}
	p.translator = translator{p.integer}
	return p
}

// readHead resolves all but the body. The conditions mention no variables but those that are visible.
func (p *procedure) readHead() {
	p.params = mapped(p.tree.Kids[0].Kids, p.declare)
	p.visible = len(p.vars)
	p.results = mapped(p.tree.Kids[1].Kids, p.declare)
	p.requires = p.when(p.tree.Kids[2])
	p.visible = len(p.vars)
	p.ensures = p.when(p.tree.Kids[3])
}

// when resolves a condition that may be absent.
func (p *procedure) when(t api.Syntax) api.Cond {
	if len(t.Kids) == 0 {
		return api.Cond{Op: api.CondTrue}
	}
	return p.condition(t.Kids[0])
}

// resolve resolves the body, if there is one, and returns the whole procedure.
func (p *procedure) resolve() api.Proc {
	var body []api.Stmt
	for _, block := range p.tree.Kids[4:] {
		body = p.body(block)
	}
	return api.Proc{
		Name:     p.tree.Text,
		Params:   total(p.params),
		Results:  total(p.results),
		Vars:     p.vars,
		Arrays:   p.arrays,
		Requires: p.requires,
		Ensures:  p.ensures,
		Extern:   isImported(p.tree),
		Body:     body,
	}
}

// total returns the number of variables.
func total(groups []group) int {
	sum := 0
	for _, g := range groups {
		sum += g.size
	}
	return sum
}

// body resolves the declarations and statements of a procedure in their order.
func (p *procedure) body(t api.Syntax) []api.Stmt {
	var list []api.Stmt
	for _, kid := range t.Kids {
		switch kid.Kind {
		case api.NodeVar:
			p.declareAll(kid)
		case api.NodeArray:
			p.declareArray(kid)
		default:
			list = append(list, p.statement(kid, 1)...)
		}
	}
	return list
}

// declareAll declares variables that can be mentioned from there on.
func (p *procedure) declareAll(t api.Syntax) {
	for _, kid := range t.Kids {
		p.declare(kid)
	}
	p.visible = len(p.vars)
}
