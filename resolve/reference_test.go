package resolve

import (
	"slices"

	"surveyor/api"
)

// This file has a reference that results are compared with: it goes on behind errors, and keeps the first one.

type reference struct {
	at      int
	e       api.Errno
	isRight bool // while there is no error

	records map[string][]string
	procs   []api.Syntax
	heads   []signature

	// Of the procedure that is being read:
	proc    *api.Proc
	types   map[string]sort
	visible int
	count   int
}

// sort is what a name stands for: variables from one on, or an array.
type sort struct {
	record  string
	first   int
	isArray bool
}

type signature struct {
	proc            api.Proc
	types           map[string]sort
	params, results []string
}

// found is what a place stands for, if there is something.
type found struct {
	record  string
	first   int
	isKnown bool
}

// referenceProgram resolves a tree that printer.Check accepts.
func referenceProgram(t api.Syntax) (api.Program, int, api.Errno) {
	r := &reference{isRight: true, records: map[string][]string{}}
	n := 0
	for _, kid := range t.Kids {
		if kid.Kind != api.NodeRecord {
			continue
		}
		n++
		r.failIf(n > 1024, kid.At, api.ErrMany)
		r.failIf(r.records[kid.Text] != nil, kid.At, api.ErrTwice)
		var fields []string
		for i, f := range kid.Kids {
			r.failIf(i == 6, f.At, api.ErrMany)
			r.failIf(slices.Contains(fields, f.Text), f.At, api.ErrTwice)
			fields = append(fields, f.Text)
		}
		r.records[kid.Text] = fields
	}
	for _, kid := range t.Kids {
		if kid.Kind == api.NodeProc {
			r.head(kid)
		}
	}
	var p api.Program
	for i, h := range r.heads {
		r.proc, r.types, r.visible, r.count = &h.proc, h.types, 1<<30, 0
		if len(r.procs[i].Kids) == 5 {
			r.proc.Body = r.statements(r.procs[i].Kids[4].Kids, 1)
		}
		p.Procs = append(p.Procs, h.proc)
	}
	if !r.isRight {
		return api.Program{}, r.at, r.e
	}
	return p, 0, api.OK
}

func (r *reference) failIf(isWrong bool, at int, e api.Errno) bool {
	if isWrong && r.isRight {
		r.at, r.e, r.isRight = at, e, false
	}
	return isWrong
}

func (r *reference) head(t api.Syntax) {
	r.failIf(len(r.procs) == 12, t.At, api.ErrMany)
	r.failIf(slices.ContainsFunc(r.procs, func(x api.Syntax) bool { return x.Text == t.Text }), t.At, api.ErrTwice)
	h := signature{proc: api.Proc{Name: t.Text, Extern: len(t.Kids) == 4}, types: map[string]sort{}}
	r.proc, r.types = &h.proc, h.types
	for _, x := range t.Kids[0].Kids {
		r.variable(x)
		h.params = append(h.params, r.types[x.Text].record)
	}
	h.proc.Params = len(h.proc.Vars)
	for _, x := range t.Kids[1].Kids {
		r.variable(x)
		h.results = append(h.results, r.types[x.Text].record)
	}
	h.proc.Results = len(h.proc.Vars) - h.proc.Params
	for i, most := range []int{h.proc.Params, len(h.proc.Vars)} {
		r.visible = most
		for _, x := range t.Kids[2+i].Kids {
			*[]*api.Cond{&h.proc.Requires, &h.proc.Ensures}[i] = r.condition(x)
		}
	}
	r.procs, r.heads = append(r.procs, t), append(r.heads, h)
}

func (r *reference) variable(t api.Syntax) {
	names, record := []string{t.Text}, ""
	if len(t.Kids) == 1 {
		record = t.Kids[0].Text
		r.failIf(r.records[record] == nil, t.Kids[0].At, api.ErrName)
		names = nil
		for _, f := range r.records[record] {
			names = append(names, t.Text+"."+f)
		}
	}
	_, isUsed := r.types[t.Text]
	r.failIf(isUsed, t.At, api.ErrTwice)
	r.failIf(len(r.proc.Vars)+len(names) > 12, t.At, api.ErrMany)
	r.types[t.Text] = sort{record: record, first: len(r.proc.Vars)}
	r.proc.Vars = append(r.proc.Vars, names...)
}

func (r *reference) statements(list []api.Syntax, depth int) []api.Stmt {
	var out []api.Stmt
	for _, t := range list {
		switch t.Kind {
		case api.NodeVar:
			for _, x := range t.Kids {
				r.variable(x)
			}
		case api.NodeArray:
			_, isUsed := r.types[t.Text]
			r.failIf(isUsed, t.At, api.ErrTwice)
			r.failIf(len(r.proc.Arrays) == 4, t.At, api.ErrMany)
			r.failIf(t.Num < 1 || t.Num > 32, t.At, api.ErrRange)
			r.types[t.Text] = sort{isArray: true, first: len(r.proc.Arrays)}
			r.proc.Arrays = append(r.proc.Arrays, api.Array{Name: t.Text, Len: t.Num})
		default:
			if !r.failIf(depth > 16, t.At, api.ErrDeep) {
				out = append(out, r.statement(t, depth)...)
			}
		}
	}
	return out
}

func (r *reference) add(t api.Syntax, n int) {
	r.count += n
	r.failIf(r.count > 128, t.At, api.ErrMany)
}

func (r *reference) statement(t api.Syntax, depth int) []api.Stmt {
	s := api.Stmt{At: t.At}
	switch t.Kind {
	case api.NodeIf, api.NodeWhile:
		r.add(t, 1)
		s.Op = map[int]int{api.NodeIf: api.StmtIf, api.NodeWhile: api.StmtWhile}[t.Kind]
		s.Cond = r.condition(t.Kids[0])
		s.Body = r.statements(t.Kids[1].Kids, depth+1)
		if len(t.Kids) == 3 && t.Kids[2].Kind == api.NodeIf {
			s.Else = r.statements(t.Kids[2:], depth+1)
		} else if len(t.Kids) == 3 {
			s.Else = r.statements(t.Kids[2].Kids, depth+1)
		}
		return []api.Stmt{s}
	case api.NodeAssert, api.NodeAssume:
		s.Op = map[int]int{api.NodeAssert: api.StmtAssert, api.NodeAssume: api.StmtAssume}[t.Kind]
		s.Cond = r.condition(t.Kids[0])
	case api.NodeStore:
		s.Op, s.Array = api.StmtStore, r.array(t.Text, t.At)
		s.Index = r.expression(t.Kids[0])
		s.Expr = r.expression(t.Kids[1])
	default:
		list := r.assignment(t, s)
		r.add(t, len(list))
		return list
	}
	r.add(t, 1)
	return []api.Stmt{s}
}

func (r *reference) array(name string, at int) int {
	x, isUsed := r.types[name]
	r.failIf(!isUsed || !x.isArray, at, api.ErrName)
	return x.first
}

func (r *reference) assignment(t api.Syntax, s api.Stmt) []api.Stmt {
	var places []found
	var assigned []int
	for _, x := range t.Kids[0].Kids {
		place := r.place(x)
		r.failIf(place.isKnown && place.first < r.proc.Params, x.At, api.ErrUse)
		for _, i := range r.indices(place) {
			r.failIf(slices.Contains(assigned, i), x.At, api.ErrTwice)
			assigned = append(assigned, i)
		}
		places = append(places, place)
	}
	right := t.Kids[1]
	switch right.Kind {
	case api.NodeInput, api.NodeLoad:
		s.Op = api.StmtInput
		if right.Kind == api.NodeLoad {
			s.Op, s.Array = api.StmtLoad, r.array(right.Text, right.At)
			s.Index = r.expression(right.Kids[0])
		}
		if !r.failIf(len(places) != 1, t.At, api.ErrShape) {
			r.failIf(places[0].record != "", right.At, api.ErrType)
			s.Var = places[0].first
		}
		return []api.Stmt{s}
	case api.NodeCall:
		return []api.Stmt{r.call(t, s, places, assigned)}
	}
	if r.failIf(len(places) != 1, t.At, api.ErrShape) {
		return nil
	}
	var list []api.Stmt
	for i, x := range r.argument(right, places[0].record) {
		s.Var, s.Expr = places[0].first+i, x
		list = append(list, s)
	}
	return list
}

func (r *reference) call(t api.Syntax, s api.Stmt, places []found, assigned []int) api.Stmt {
	right := t.Kids[1]
	s.Op, s.Results = api.StmtCall, assigned
	s.Proc = slices.IndexFunc(r.heads, func(h signature) bool { return h.proc.Name == right.Text })
	if r.failIf(s.Proc < 0, right.At, api.ErrName) {
		return s
	}
	callee := r.heads[s.Proc]
	if r.failIf(len(right.Kids) != len(callee.params), right.At, api.ErrShape) {
		return s
	}
	for i, x := range right.Kids {
		s.Args = append(s.Args, r.argument(x, callee.params[i])...)
	}
	if r.failIf(len(places) != len(callee.results), t.At, api.ErrShape) {
		return s
	}
	for i, place := range places {
		r.failIf(place.record != callee.results[i], t.Kids[0].Kids[i].At, api.ErrType)
	}
	return s
}

// argument returns the expressions of a right side for a place of a type.
func (r *reference) argument(t api.Syntax, record string) []api.Expr {
	if record == "" {
		return []api.Expr{r.expression(t)}
	}
	if r.failIf(t.Kind != api.NodePlace, t.At, api.ErrType) {
		return nil
	}
	place := r.place(t)
	r.failIf(place.record != record, t.At, api.ErrType)
	var list []api.Expr
	for _, i := range r.indices(place) {
		list = append(list, api.Expr{Op: api.ExprVar, Var: i})
	}
	return list
}

func (r *reference) indices(p found) []int {
	n := 1
	if p.record != "" {
		n = len(r.records[p.record])
	}
	var list []int
	for i := range n {
		list = append(list, p.first+i)
	}
	return list
}

func (r *reference) place(t api.Syntax) found {
	x, isUsed := r.types[t.Text]
	if r.failIf(!isUsed || x.isArray, t.At, api.ErrName) {
		return found{}
	}
	p := found{x.record, x.first, true}
	if len(t.Kids) == 1 {
		if r.failIf(x.record == "", t.At, api.ErrType) {
			return found{}
		}
		i := slices.Index(r.records[x.record], t.Kids[0].Text)
		if r.failIf(i < 0, t.Kids[0].At, api.ErrName) {
			return found{}
		}
		p = found{"", x.first + i, true}
	}
	r.failIf(p.first >= r.visible, t.At, api.ErrUse)
	return p
}

// expression checks the size behind all other errors.
func (r *reference) expression(t api.Syntax) api.Expr {
	x := r.expr(t)
	n, depth := exprSize(x)
	r.failIf(n > 64, t.At, api.ErrMany)
	r.failIf(depth > 16, t.At, api.ErrDeep)
	return x
}

func (r *reference) expr(t api.Syntax) api.Expr {
	ops := map[string]int{"+": api.ExprAdd, "-": api.ExprSub, "*": api.ExprMul, "/": api.ExprDiv, "%": api.ExprMod}
	switch op, isOp := ops[t.Text]; {
	case t.Kind == api.NodeNumber:
		return api.Expr{Num: api.Int(t.Text)}
	case t.Kind == api.NodePlace:
		p := r.place(t)
		r.failIf(p.record != "", t.At, api.ErrType)
		return api.Expr{Op: api.ExprVar, Var: p.first}
	case t.Kind == api.NodeUnary && t.Text == "-":
		return api.Expr{Op: api.ExprNeg, Args: []api.Expr{r.expr(t.Kids[0])}}
	case t.Kind == api.NodeBinary && isOp:
		left := r.expr(t.Kids[0])
		return api.Expr{Op: op, Args: []api.Expr{left, r.expr(t.Kids[1])}}
	}
	r.failIf(true, t.At, api.ErrType)
	return api.Expr{}
}

func (r *reference) condition(t api.Syntax) api.Cond {
	x := r.cond(t)
	n, depth := condSize(x)
	r.failIf(n > 64, t.At, api.ErrMany)
	r.failIf(depth > 16, t.At, api.ErrDeep)
	return x
}

func (r *reference) cond(t api.Syntax) api.Cond {
	switch t.Text {
	case "true":
		return api.Cond{Op: api.CondTrue}
	case "false":
		return api.Cond{Op: api.CondFalse}
	case "not":
		return api.Cond{Op: api.CondNot, Args: []api.Cond{r.cond(t.Kids[0])}}
	case "and", "or":
		left := r.cond(t.Kids[0])
		return api.Cond{Op: map[string]int{"and": api.CondAnd, "or": api.CondOr}[t.Text], Args: []api.Cond{left, r.cond(t.Kids[1])}}
	case "=", "!=", "<", "<=", ">", ">=":
		left := r.expr(t.Kids[0])
		right := r.expr(t.Kids[1])
		if t.Text[0] == '>' {
			left, right = right, left
		}
		op := map[string]int{"=": api.CondEq, "!=": api.CondNe, "<": api.CondLt, ">": api.CondLt, "<=": api.CondLe, ">=": api.CondLe}[t.Text]
		return api.Cond{Op: op, Exprs: []api.Expr{left, right}}
	}
	r.failIf(true, t.At, api.ErrType)
	return api.Cond{}
}

// exprSize returns the number of nodes, and the depth.
func exprSize(x api.Expr) (int, int) {
	n, depth := 1, 0
	for _, a := range x.Args {
		m, d := exprSize(a)
		n, depth = n+m, max(depth, d)
	}
	return n, depth + 1
}

// condSize returns the number of nodes with those of expressions, and the greatest one of the depths.
func condSize(x api.Cond) (int, int) {
	n, depth := 1, 0
	for _, a := range x.Args {
		m, d := condSize(a)
		n, depth = n+m, max(depth, d)
	}
	depth++
	for _, a := range x.Exprs {
		m, d := exprSize(a)
		n, depth = n+m, max(depth, d)
	}
	return n, depth
}
