package cfg

import (
	"strconv"

	"surveyor/api"
	"surveyor/cond"
	"surveyor/operands"
)

// builder builds the graph of a procedure of a well-formed program.
type builder struct {
	proc  api.Proc
	next  func() int // makes a point
	edges []api.Edge
	fault api.Errno
}

// build returns the graph of a procedure, or its error.
func build(p api.Proc) (api.Graph, api.Errno) {
	b := &builder{proc: p, next: counter()}
	exit := b.body(p.Body, b.next())
	if b.fault != api.OK {
		return api.Graph{}, b.fault
	}
	// The next point would have the number of those that have been made.
	return api.Graph{Points: b.next(), Exit: exit, Edges: b.edges}, api.OK
}

// counter returns a function that returns the numbers from 0 on.
func counter() func() int {
	count := 0
	return func() int {
		count++
		return count - 1
	}
}

// body builds statements from a point on, and returns the point behind them. It stops where something is wrong, as divisors can be too many to build them all.
func (b *builder) body(list []api.Stmt, from int) int {
	rules := [...]func(s api.Stmt, from int) int{
		api.StmtAssign: b.plain,
		api.StmtInput:  b.plain,
		api.StmtLoad:   b.plain,
		api.StmtStore:  b.plain,
		api.StmtIf:     b.choice,
		api.StmtWhile:  b.loop,
		api.StmtAssert: b.assertion,
		api.StmtAssume: b.plain,
		api.StmtCall:   b.plain,
	}
	for _, s := range list {
		if b.fault != api.OK {
			break
		}
		from = rules[s.Op](s, from)
	}
	return from
}

// The rules for statements build one from a point on, and return the point from which the next one is built.

// plain builds a statement that has a command of the same name.
func (b *builder) plain(s api.Stmt, from int) int {
	commands := [...]int{
		api.StmtAssign: api.CmdAssign,
		api.StmtInput:  api.CmdInput,
		api.StmtLoad:   api.CmdLoad,
		api.StmtStore:  api.CmdStore,
		api.StmtAssume: api.CmdAssume,
		api.StmtCall:   api.CmdCall,
	}
	from = b.checks(s, from)
	return b.step(from, operands.OfStatement(s).Clone().Command(commands[s.Op], s.At))
}

func (b *builder) assertion(s api.Stmt, from int) int {
	from = b.checks(s, from)
	return b.check(from, s.At, api.CheckAssert, operands.CloneCond(s.Cond))
}

func (b *builder) choice(s api.Stmt, from int) int {
	from = b.checks(s, from)
	then := b.body(s.Body, b.assume(from, s.At, operands.CloneCond(s.Cond)))
	otherwise := b.body(s.Else, b.assume(from, s.At, b.negation(s)))
	join := b.next()
	b.skip(then, join, s.At)
	b.skip(otherwise, join, s.At)
	return join
}

func (b *builder) loop(s api.Stmt, from int) int {
	head := b.next()
	b.skip(from, head, s.At)
	from = b.checks(s, head)
	last := b.body(s.Body, b.assume(from, s.At, operands.CloneCond(s.Cond)))
	b.skip(last, head, s.At)
	return b.assume(from, s.At, b.negation(s))
}

// negation returns the negation of the condition of a statement.
func (b *builder) negation(s api.Stmt) api.Cond {
	c, _ := cond.Negate(s.Cond, len(b.proc.Vars))
	return c
}

// checks builds what is checked before a statement: its divisors, and its index.
func (b *builder) checks(s api.Stmt, from int) int {
	for _, d := range operands.OfStatement(s).Divisors(len(b.proc.Vars)) {
		from = b.check(from, s.At, api.CheckDivide, comparison(api.CondNe, d, number(0)))
	}
	if s.Op == api.StmtLoad || s.Op == api.StmtStore {
		from = b.check(from, s.At, api.CheckIndex, inside(s.Index, b.proc.Arrays[s.Array].Len))
	}
	return from
}

// inside returns the condition that an index is one of an array.
func inside(index api.Expr, length int) api.Cond {
	lower := comparison(api.CondLe, number(0), operands.CloneExpr(index))
	upper := comparison(api.CondLt, operands.CloneExpr(index), number(length))
	return api.Cond{Op: api.CondAnd, Args: []api.Cond{lower, upper}}
}

func comparison(op int, a, b api.Expr) api.Cond {
	return api.Cond{Op: op, Exprs: []api.Expr{a, b}}
}

func number(n int) api.Expr {
	return api.Expr{Op: api.ExprNum, Num: api.Int(strconv.Itoa(n))}
}

// check adds an edge with a check, and returns its end. A condition of a divisor or an index can be larger than what it is made of, and then it is wrong.
func (b *builder) check(from, at, kind int, c api.Cond) int {
	b.record(cond.Check(c, len(b.proc.Vars)))
	return b.step(from, api.Command{Op: api.CmdCheck, At: at, Check: kind, Cond: c})
}

func (b *builder) assume(from, at int, c api.Cond) int {
	return b.step(from, api.Command{Op: api.CmdAssume, At: at, Cond: c})
}

// step adds an edge to a new point, and returns this.
func (b *builder) step(from int, c api.Command) int {
	to := b.next()
	b.link(from, to, c)
	return to
}

func (b *builder) skip(from, to, at int) {
	b.link(from, to, api.Command{Op: api.CmdSkip, At: at})
}

// link adds an edge. An edge leads to each point but the entry, so none of them is overlooked here.
func (b *builder) link(from, to int, c api.Command) {
	b.edges = append(b.edges, api.Edge{From: from, To: to, Command: c})
	if to >= api.MaxPoints || len(b.edges) > api.MaxEdges {
		b.record(api.ErrMany)
	}
}

// record keeps the first error. Conditions that are wrong count before too many points, but they are never too deep, so that both are ErrMany.
func (b *builder) record(fault api.Errno) {
	if b.fault == api.OK {
		b.fault = fault
	}
}
