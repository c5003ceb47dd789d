package cfg

import (
	"fmt"
	"math/rand"
	"slices"

	"surveyor/api"
)

// This file has random programs, and graphs with errors.

// generator makes the statements of a procedure.
type generator struct {
	*rand.Rand
	procs []api.Proc
	proc  api.Proc
	at    int
}

func (g *generator) expr(depth int) api.Expr {
	if depth <= 1 || g.Intn(3) == 0 {
		if n := len(g.proc.Vars); n > 0 && g.Intn(3) > 0 {
			return variable(g.Intn(n))
		}
		return num(api.Int(fmt.Sprint(g.Intn(6) - 1)))
	}
	op := []int{api.ExprNeg, api.ExprAdd, api.ExprSub, api.ExprMul, api.ExprDiv, api.ExprDiv, api.ExprMod, api.ExprMod}[g.Intn(8)]
	if op == api.ExprNeg {
		return node(op, g.expr(depth-1))
	}
	return node(op, g.expr(depth-1), g.expr(depth-1))
}

func (g *generator) cond(depth int) api.Cond {
	if depth <= 1 || g.Intn(3) > 0 {
		if g.Intn(6) == 0 {
			return api.Cond{Op: g.Intn(2)}
		}
		return compared(api.CondEq+g.Intn(4), g.expr(2), g.expr(2))
	}
	c := api.Cond{Op: api.CondNot + g.Intn(3), Args: []api.Cond{g.cond(depth - 1)}}
	if c.Op != api.CondNot {
		c.Args = append(c.Args, g.cond(depth-1))
	}
	return c
}

func (g *generator) body(length, depth int) []api.Stmt {
	var body []api.Stmt
	for range g.Intn(length + 1) {
		body = append(body, g.stmt(depth))
	}
	return body
}

// stmt returns a statement of a procedure with at least one variable that is no parameter, and one array.
func (g *generator) stmt(depth int) api.Stmt {
	g.at += 1 + g.Intn(9)
	s := api.Stmt{Op: g.Intn(9), At: g.at}
	if depth == 1 && (s.Op == api.StmtIf || s.Op == api.StmtWhile) {
		s.Op = api.StmtAssert
	}
	target := g.proc.Params + g.Intn(len(g.proc.Vars)-g.proc.Params)
	switch s.Op {
	case api.StmtAssign:
		s.Var, s.Expr = target, g.expr(4)
	case api.StmtInput:
		s.Var = target
	case api.StmtLoad:
		s.Var, s.Array, s.Index = target, g.Intn(len(g.proc.Arrays)), g.expr(3)
	case api.StmtStore:
		s.Array, s.Index, s.Expr = g.Intn(len(g.proc.Arrays)), g.expr(3), g.expr(3)
	case api.StmtIf:
		s.Cond, s.Body, s.Else = g.cond(3), g.body(3, depth-1), g.body(2, depth-1)
	case api.StmtWhile:
		s.Cond, s.Body = g.cond(3), g.body(3, depth-1)
	case api.StmtAssert, api.StmtAssume:
		s.Cond = g.cond(3)
	case api.StmtCall:
		s.Proc = g.Intn(len(g.procs))
		for range g.procs[s.Proc].Params {
			s.Args = append(s.Args, g.expr(3))
		}
		for _, v := range g.Perm(len(g.proc.Vars) - g.proc.Params)[:g.procs[s.Proc].Results] {
			s.Results = append(s.Results, g.proc.Params+v)
		}
	}
	return s
}

// random returns a well-formed program.
func random(r *rand.Rand) api.Program {
	var procs []api.Proc
	for i, name := range []string{"main", "f", "g", "h"}[:1+r.Intn(4)] {
		q := api.Proc{Name: name, Params: r.Intn(3), Results: r.Intn(3), Extern: i > 0 && r.Intn(6) == 0}
		q.Vars = []string{"x", "r.u", "r.v", "y", "p", "q.u", "z"}[:q.Params+q.Results]
		if !q.Extern {
			q.Vars = []string{"x", "r.u", "r.v", "y", "p", "q.u", "z"}[:q.Params+max(q.Results, 2)+r.Intn(2)]
			q.Arrays = []api.Array{{Name: "a", Len: 1 + r.Intn(32)}, {Name: "b", Len: 3}}[:1+r.Intn(2)]
		}
		procs = append(procs, q)
	}
	g := &generator{Rand: r, procs: procs}
	for i, q := range procs {
		if g.proc = q; !q.Extern {
			procs[i].Body = g.body(6, 3)
		}
	}
	return api.Program{Procs: procs}
}

// mutate changes something in graphs, so that they may be wrong.
func mutate(r *rand.Rand, l []api.Graph) {
	g := &l[r.Intn(len(l))]
	if len(g.Edges) == 0 || r.Intn(5) == 0 {
		switch r.Intn(5) {
		case 0:
			g.Points = []int{-1, 0, 1, 2, 512, 513}[r.Intn(6)]
		case 1:
			g.Exit = r.Intn(g.Points+3) - 1
		case 2:
			g.Edges = append(g.Edges, api.Edge{})
		case 3:
			g.Edges = slices.Repeat(append(g.Edges, api.Edge{}), 1020/(len(g.Edges)+1)+r.Intn(2))
		case 4:
			l[0], *g = *g, l[0]
		}
		return
	}
	edge := &g.Edges[r.Intn(len(g.Edges))]
	for range 5 {
		// Calls have the most fields that can be wrong.
		if edge.Command.Op != api.CmdCall {
			edge = &g.Edges[r.Intn(len(g.Edges))]
		}
	}
	switch r.Intn(20) {
	case 0:
		edge.From = r.Intn(g.Points+2) - 1
	case 1:
		edge.To = r.Intn(g.Points+2) - 1
	default:
		mutateCommand(r, &edge.Command)
	}
}

func mutateCommand(r *rand.Rand, c *api.Command) {
	wrong := []api.Expr{{}, num("1"), num("-0"), num(huge), variable(r.Intn(7)), node(9), node(api.ExprNeg)}[r.Intn(7)]
	letters := "OTKVAPIECGR"
	if used := fields[c.Op]; used != "" && r.Intn(4) > 0 {
		letters = used
	}
	switch letters[r.Intn(len(letters))] {
	case 'O':
		c.Op = r.Intn(10) - 1
	case 'T':
		c.At = []int{-1, 0, 65536, 65537}[r.Intn(4)]
	case 'K':
		c.Check = r.Intn(8) - 1
	case 'V':
		c.Var = r.Intn(8) - 1
	case 'A':
		c.Array = r.Intn(4) - 1
	case 'P':
		c.Proc = r.Intn(5) - 1
	case 'I':
		c.Index = wrong
	case 'E':
		c.Expr = wrong
	case 'C':
		c.Cond = []api.Cond{{Op: 1}, {Op: 9}, {Op: api.CondAnd}, {Exprs: []api.Expr{{}}}, compared(api.CondEq, wrong, num("1"))}[r.Intn(5)]
	case 'G':
		if c.Args = slices.Clone(c.Args); len(c.Args) > 0 && r.Intn(4) > 0 {
			c.Args[r.Intn(len(c.Args))] = wrong
		} else {
			c.Args = append(c.Args, wrong)
		}
	case 'R':
		if c.Results = slices.Clone(c.Results); len(c.Results) > 0 && r.Intn(4) > 0 {
			c.Results[len(c.Results)-1] = []int{r.Intn(8) - 1, c.Results[0]}[r.Intn(2)]
		} else {
			c.Results = append(c.Results, r.Intn(7)-1)
		}
	}
}

// copied returns graphs in other memory; lists without elements are nil.
func copied(l []api.Graph) []api.Graph {
	var out []api.Graph
	for _, g := range l {
		var edges []api.Edge
		for _, edge := range g.Edges {
			c := &edge.Command
			c.Index, c.Expr, c.Cond = copiedExpr(c.Index), copiedExpr(c.Expr), copiedCond(c.Cond)
			c.Args, c.Results = copiedExpr(api.Expr{Args: c.Args}).Args, append([]int(nil), c.Results...)
			edges = append(edges, edge)
		}
		out = append(out, api.Graph{Points: g.Points, Exit: g.Exit, Edges: edges})
	}
	return out
}

func copiedExpr(e api.Expr) api.Expr {
	args := e.Args
	e.Args = nil
	for _, a := range args {
		e.Args = append(e.Args, copiedExpr(a))
	}
	return e
}

func copiedCond(c api.Cond) api.Cond {
	out := api.Cond{Op: c.Op, Exprs: copiedExpr(api.Expr{Args: c.Exprs}).Args}
	for _, a := range c.Args {
		out.Args = append(out.Args, copiedCond(a))
	}
	return out
}
