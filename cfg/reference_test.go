package cfg

import (
	"fmt"
	"strings"
	"testing"

	"surveyor/api"
	"surveyor/cond"
	"surveyor/expr"
	"surveyor/parser"
	"surveyor/program"
	"surveyor/resolve"
)

// This file has the references that results are compared with.

var (
	nines = api.Int(strings.Repeat("9", 100))
	huge  = nines + "9"
)

// want reports an error if a value or an error number is not the expected one.
func want(t *testing.T, what string, got, wanted any, e, wantedError api.Errno) {
	t.Helper()
	if g, w := fmt.Sprintf("%+v", got), fmt.Sprintf("%+v", wanted); g != w || e != wantedError {
		t.Errorf("%.1500s:\ngot  %.2000s, %d\nwant %.2000s, %d", what, g, e, w, wantedError)
	}
}

func num(text api.Int) api.Expr { return api.Expr{Op: api.ExprNum, Num: text} }

func variable(i int) api.Expr { return api.Expr{Op: api.ExprVar, Var: i} }

func node(op int, args ...api.Expr) api.Expr { return api.Expr{Op: op, Args: args} }

// compared returns a comparison.
func compared(op int, exprs ...api.Expr) api.Cond { return api.Cond{Op: op, Exprs: exprs} }

// read returns the program of a text.
func read(t *testing.T, src string) api.Program {
	t.Helper()
	tree, at, e := parser.Parse(src)
	if e != api.OK {
		t.Fatalf("%q has no tree: %d, %d", src, at, e)
	}
	p, at, e := resolve.Program(tree)
	if e != api.OK {
		t.Fatalf("%q is no program: %d, %d", src, at, e)
	}
	return p
}

// built returns the graphs of a program.
func built(t *testing.T, p api.Program) []api.Graph {
	t.Helper()
	l, e := Build(p)
	if e != api.OK {
		t.Fatalf("no graphs of %+v: %d", p, e)
	}
	return l
}

// drawn returns the text of a graph: the number of points, the exit, and the edges.
func drawn(t *testing.T, p api.Program, proc int, g api.Graph) string {
	t.Helper()
	out := fmt.Sprintf("%d %d", g.Points, g.Exit)
	for _, edge := range g.Edges {
		text, e := Format(p, proc, edge.Command)
		if e != api.OK {
			t.Errorf("Format of %+v: %d", edge.Command, e)
		}
		out += fmt.Sprintf("; %d-%d %s", edge.From, edge.To, text)
	}
	return out
}

// fields has the fields of the commands by their letters, as api names them.
var fields = map[int]string{api.CmdSkip: "", api.CmdAssign: "VE", api.CmdInput: "V", api.CmdLoad: "VAI", api.CmdStore: "AIE", api.CmdAssume: "C", api.CmdCheck: "CK", api.CmdCall: "PGR"}

// others returns a command with zeros in the fields of its operation.
func others(c api.Command) api.Command {
	for _, letter := range fields[c.Op] {
		switch letter {
		case 'V':
			c.Var = 0
		case 'A':
			c.Array = 0
		case 'P':
			c.Proc = 0
		case 'I':
			c.Index = api.Expr{}
		case 'E':
			c.Expr = api.Expr{}
		case 'C':
			c.Cond = api.Cond{}
		case 'K':
			c.Check = 0
		case 'G':
			c.Args = nil
		case 'R':
			c.Results = nil
		}
	}
	return c
}

// referenceCommand is the error of a command.
func referenceCommand(p api.Program, proc int, c api.Command) api.Errno {
	q := p.Procs[proc]
	letters, known := fields[c.Op]
	has := func(letter string) bool { return strings.Contains(letters, letter) }
	switch {
	case !known:
		return api.ErrArg
	case c.At < 0 || c.At > 65536:
		return api.ErrRange
	case has("K") && (c.Check < 1 || c.Check > 5):
		return api.ErrArg
	case fmt.Sprintf("%+v", others(c)) != fmt.Sprintf("%+v", api.Command{Op: c.Op, At: c.At}):
		return api.ErrForm
	case has("V") && (c.Var < 0 || c.Var >= len(q.Vars)):
		return api.ErrNone
	case has("V") && c.Var < q.Params:
		return api.ErrUse
	case has("A") && (c.Array < 0 || c.Array >= len(q.Arrays)):
		return api.ErrNone
	case has("I") && expr.Check(c.Index, len(q.Vars)) != api.OK:
		return expr.Check(c.Index, len(q.Vars))
	case has("E") && expr.Check(c.Expr, len(q.Vars)) != api.OK:
		return expr.Check(c.Expr, len(q.Vars))
	case has("C"):
		return cond.Check(c.Cond, len(q.Vars))
	case has("P") && (c.Proc < 0 || c.Proc >= len(p.Procs)):
		return api.ErrNone
	case has("P"):
		return referenceCall(q, p.Procs[c.Proc], c)
	}
	return api.OK
}

// referenceCall is the error of the arguments and results of a call.
func referenceCall(q, called api.Proc, c api.Command) api.Errno {
	if len(c.Args) != called.Params {
		return api.ErrShape
	}
	for _, a := range c.Args {
		if e := expr.Check(a, len(q.Vars)); e != api.OK {
			return e
		}
	}
	if len(c.Results) != called.Results {
		return api.ErrShape
	}
	seen := map[int]bool{}
	for _, v := range c.Results {
		switch {
		case v < 0 || v >= len(q.Vars):
			return api.ErrNone
		case v < q.Params:
			return api.ErrUse
		case seen[v]:
			return api.ErrTwice
		}
		seen[v] = true
	}
	return api.OK
}

// referenceCheck is the error of graphs.
func referenceCheck(p api.Program, l []api.Graph) api.Errno {
	if e := program.Check(p); e != api.OK {
		return e
	}
	if len(l) != len(p.Procs) {
		return api.ErrShape
	}
	for i, g := range l {
		switch {
		case g.Points < 1 || g.Points > 512:
			return api.ErrRange
		case g.Exit < 0 || g.Exit >= g.Points:
			return api.ErrNone
		case len(g.Edges) > 1024:
			return api.ErrMany
		case p.Procs[i].Extern && len(g.Edges) > 0:
			return api.ErrForm
		}
		for _, edge := range g.Edges {
			for _, end := range []int{edge.From, edge.To} {
				if end < 0 || end >= g.Points {
					return api.ErrNone
				}
			}
			if e := referenceCommand(p, i, edge.Command); e != api.OK {
				return e
			}
		}
	}
	return api.OK
}

// zeroDivisors returns the divisors of an expression.
func zeroDivisors(e api.Expr) []api.Expr {
	var out []api.Expr
	for _, a := range e.Args {
		out = append(out, zeroDivisors(a)...)
	}
	if e.Op == api.ExprDiv || e.Op == api.ExprMod {
		if d := e.Args[1]; d.Op != api.ExprNum || d.Num == "0" {
			out = append(out, d)
		}
	}
	return out
}

func zeroDivisorsOfCond(c api.Cond) []api.Expr {
	var out []api.Expr
	for _, e := range c.Exprs {
		out = append(out, zeroDivisors(e)...)
	}
	for _, a := range c.Args {
		out = append(out, zeroDivisorsOfCond(a)...)
	}
	return out
}

// negated is the negation normal form of a condition, or of its negation.
func negated(c api.Cond, isNegated bool) api.Cond {
	if c.Op == api.CondNot {
		return negated(c.Args[0], !isNegated)
	}
	out := api.Cond{Op: c.Op, Exprs: c.Exprs}
	for _, a := range c.Args {
		out.Args = append(out.Args, negated(a, isNegated))
	}
	if isNegated {
		out.Op = map[int]int{api.CondTrue: api.CondFalse, api.CondFalse: api.CondTrue, api.CondEq: api.CondNe, api.CondNe: api.CondEq, api.CondLt: api.CondLe, api.CondLe: api.CondLt, api.CondAnd: api.CondOr, api.CondOr: api.CondAnd}[c.Op]
		if c.Op == api.CondLt || c.Op == api.CondLe {
			out.Exprs = []api.Expr{c.Exprs[1], c.Exprs[0]}
		}
	}
	return out
}

// drawing is a graph that is drawn by the rules of the document.
type drawing struct {
	api.Graph
	proc    api.Proc
	isLarge bool // whether the condition of an index is too large
}

func (d *drawing) point() int {
	d.Points++
	return d.Points - 1
}

func (d *drawing) edge(from, to int, s api.Stmt, c api.Command) int {
	c.At = s.At
	d.Edges = append(d.Edges, api.Edge{From: from, To: to, Command: c})
	return to
}

func (d *drawing) divisors(c int, s api.Stmt) int {
	all := append(zeroDivisors(s.Index), zeroDivisors(s.Expr)...)
	all = append(all, zeroDivisorsOfCond(s.Cond)...)
	for _, a := range s.Args {
		all = append(all, zeroDivisors(a)...)
	}
	for _, x := range all {
		c = d.edge(c, d.point(), s, api.Command{Op: api.CmdCheck, Check: api.CheckDivide, Cond: compared(api.CondNe, x, num("0"))})
	}
	return c
}

func (d *drawing) body(c int, list []api.Stmt) int {
	for _, s := range list {
		c = d.statement(c, s)
	}
	return c
}

func (d *drawing) statement(c int, s api.Stmt) int {
	command := api.Command{Var: s.Var, Array: s.Array, Proc: s.Proc, Index: s.Index, Expr: s.Expr, Cond: s.Cond, Args: s.Args, Results: s.Results}
	assume, otherwise := api.Command{Op: api.CmdAssume, Cond: s.Cond}, api.Command{Op: api.CmdAssume, Cond: negated(s.Cond, true)}
	switch s.Op {
	case api.StmtIf:
		c = d.divisors(c, s)
		a := d.body(d.edge(c, d.point(), s, assume), s.Body)
		b := d.body(d.edge(c, d.point(), s, otherwise), s.Else)
		j := d.point()
		d.edge(a, j, s, api.Command{})
		return d.edge(b, j, s, api.Command{})
	case api.StmtWhile:
		h := d.edge(c, d.point(), s, api.Command{})
		c = d.divisors(h, s)
		a := d.body(d.edge(c, d.point(), s, assume), s.Body)
		d.edge(a, h, s, api.Command{})
		return d.edge(c, d.point(), s, otherwise)
	case api.StmtLoad, api.StmtStore:
		c = d.divisors(c, s)
		inside := api.Cond{Op: api.CondAnd, Args: []api.Cond{compared(api.CondLe, num("0"), s.Index), compared(api.CondLt, s.Index, num(api.Int(fmt.Sprint(d.proc.Arrays[s.Array].Len))))}}
		nodes, _ := cond.Size(inside)
		d.isLarge = d.isLarge || nodes > 64
		c = d.edge(c, d.point(), s, api.Command{Op: api.CmdCheck, Check: api.CheckIndex, Cond: inside})
	default:
		c = d.divisors(c, s)
	}
	command.Op = map[int]int{api.StmtAssign: api.CmdAssign, api.StmtInput: api.CmdInput, api.StmtLoad: api.CmdLoad, api.StmtStore: api.CmdStore, api.StmtAssert: api.CmdCheck, api.StmtAssume: api.CmdAssume, api.StmtCall: api.CmdCall}[s.Op]
	if s.Op == api.StmtAssert {
		command.Check = api.CheckAssert
	}
	return d.edge(c, d.point(), s, command)
}

// referenceBuild returns the graphs of a well-formed program.
func referenceBuild(p api.Program) ([]api.Graph, api.Errno) {
	var out []api.Graph
	for _, q := range p.Procs {
		d := &drawing{proc: q}
		d.Exit = d.body(d.point(), q.Body)
		if d.isLarge || d.Points > 512 || len(d.Edges) > 1024 {
			return nil, api.ErrMany
		}
		out = append(out, d.Graph)
	}
	return out, api.OK
}
