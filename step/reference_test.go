package step

import (
	"math/big"
	"regexp"
	"strings"

	"surveyor/api"
)

// This file has the references that results are compared with. Numbers of configurations are big.Int there, and a run ends with a panic.

var canonical = regexp.MustCompile("^(0|-?[1-9][0-9]*)$")

// referenceCheck is the error of a configuration.
func referenceCheck(p api.Program, g []api.Graph, c api.Config) api.Errno {
	if len(c.Frames) == 0 {
		return api.ErrEmpty
	}
	if len(c.Frames) > 32 {
		return api.ErrMany
	}
	if c.Reads < 0 || c.Reads > 64 {
		return api.ErrRange
	}
	for i, f := range c.Frames {
		if e := referenceFrame(p, g, f); e != api.OK {
			return e
		}
		if i < len(c.Frames)-1 && referenceCall(g, c, i) < 0 {
			return api.ErrGap
		}
	}
	return api.OK
}

func referenceFrame(p api.Program, g []api.Graph, f api.Frame) api.Errno {
	if f.Proc < 0 || f.Proc > len(p.Procs)-1 {
		return api.ErrNone
	}
	q := p.Procs[f.Proc]
	if q.Extern {
		return api.ErrUse
	}
	if f.Point < 0 || f.Point > g[f.Proc].Points-1 {
		return api.ErrNone
	}
	if len(f.Vars) != len(q.Vars) || len(f.Arrays) != len(q.Arrays) {
		return api.ErrShape
	}
	for i := range f.Arrays {
		if len(f.Arrays[i]) != q.Arrays[i].Len {
			return api.ErrShape
		}
	}
	all := append([]api.Int{}, f.Vars...)
	for _, list := range f.Arrays {
		all = append(all, list...)
	}
	return referenceNumbers(all)
}

func referenceNumbers(list []api.Int) api.Errno {
	for _, a := range list {
		if !canonical.MatchString(string(a)) {
			return api.ErrForm
		}
		if len(strings.Trim(string(a), "-")) > 100 {
			return api.ErrLarge
		}
	}
	return api.OK
}

// referenceCall is the edge with which a frame calls the next one.
func referenceCall(g []api.Graph, c api.Config, i int) int {
	f, next := c.Frames[i], c.Frames[i+1]
	for j, edge := range g[f.Proc].Edges {
		if edge.From == f.Point && edge.Command.Op == api.CmdCall && edge.Command.Proc == next.Proc {
			return j
		}
	}
	return -1
}

// end is how a run ends.
type end struct{ outcome, check int }

// ended calls a function, and returns how it ends the run, if it does.
func ended(f func()) (e end) {
	defer func() {
		switch x := recover().(type) {
		case nil:
		case end:
			e = x
		default:
			panic(x)
		}
	}()
	f()
	return end{}
}

func bigOf(a api.Int) *big.Int {
	v, _ := new(big.Int).SetString(string(a), 10)
	return v
}

// eval is the value of an expression.
func eval(e api.Expr, vars []api.Int) *big.Int {
	switch e.Op {
	case api.ExprNum:
		return bigOf(e.Num)
	case api.ExprVar:
		return bigOf(vars[e.Var])
	}
	a, b, out := eval(e.Args[0], vars), new(big.Int), new(big.Int)
	if len(e.Args) > 1 {
		b = eval(e.Args[1], vars)
	}
	switch e.Op {
	case api.ExprNeg:
		out.Neg(a)
	case api.ExprAdd:
		out.Add(a, b)
	case api.ExprSub:
		out.Sub(a, b)
	case api.ExprMul:
		out.Mul(a, b)
	default:
		if b.Sign() == 0 {
			panic(end{api.OutcomeFailed, api.CheckDivide})
		}
		q, r := new(big.Int).QuoRem(a, b, new(big.Int))
		if r.Sign()*b.Sign() < 0 {
			q, r = q.Sub(q, big.NewInt(1)), r.Add(r, b)
		}
		out = map[int]*big.Int{api.ExprDiv: q, api.ExprMod: r}[e.Op]
	}
	if len(strings.Trim(out.String(), "-")) > 100 {
		panic(end{api.OutcomeLarge, 0})
	}
	return out
}

// holds is the truth of a condition. No part of it is left out.
func holds(c api.Cond, vars []api.Int) bool {
	order := 0
	if len(c.Exprs) == 2 {
		a := eval(c.Exprs[0], vars)
		order = a.Cmp(eval(c.Exprs[1], vars))
	}
	var parts []bool
	for _, a := range c.Args {
		parts = append(parts, holds(a, vars))
	}
	switch c.Op {
	case api.CondEq:
		return order == 0
	case api.CondNe:
		return order != 0
	case api.CondLt:
		return order < 0
	case api.CondLe:
		return order <= 0
	case api.CondNot:
		return !parts[0]
	case api.CondAnd:
		return parts[0] && parts[1]
	case api.CondOr:
		return parts[0] || parts[1]
	}
	return c.Op == api.CondTrue
}

// copied returns a configuration in other memory.
func copied(c api.Config) api.Config {
	out := api.Config{Reads: c.Reads}
	for _, f := range c.Frames {
		frame := api.Frame{Proc: f.Proc, Point: f.Point, Vars: append([]api.Int(nil), f.Vars...)}
		for _, list := range f.Arrays {
			frame.Arrays = append(frame.Arrays, append([]api.Int(nil), list...))
		}
		out.Frames = append(out.Frames, frame)
	}
	return out
}

// referenceTaken is the edge that is taken, and the event of a condition without a value.
func referenceTaken(g []api.Graph, c api.Config) (int, Event) {
	f := c.Frames[len(c.Frames)-1]
	if f.Point == g[f.Proc].Exit {
		return -1, Event{}
	}
	for i, edge := range g[f.Proc].Edges {
		if edge.From != f.Point {
			continue
		}
		found := true
		if edge.Command.Op == api.CmdAssume {
			if e := ended(func() { found = holds(edge.Command.Cond, f.Vars) }); e != (end{}) {
				return -1, Event{e.outcome, e.check, i}
			}
		}
		if found {
			return i, Event{}
		}
	}
	return -1, Event{}
}

// referenceStep is the configuration behind a step, and its event.
func referenceStep(p api.Program, g []api.Graph, c api.Config, reads []api.Int) (api.Config, Event) {
	after := copied(c)
	last := len(c.Frames) - 1
	f := c.Frames[last]
	if f.Point == g[f.Proc].Exit {
		if last == 0 {
			return after, Event{api.OutcomeDone, 0, -1}
		}
		i := referenceCall(g, c, last-1)
		edge := g[c.Frames[last-1].Proc].Edges[i]
		after.Frames = after.Frames[:last]
		after.Frames[last-1].Point = edge.To
		for j, v := range edge.Command.Results {
			after.Frames[last-1].Vars[v] = f.Vars[p.Procs[f.Proc].Params+j]
		}
		return after, Event{0, 0, i}
	}
	i, v := referenceTaken(g, c)
	if v != (Event{}) {
		return after, v
	}
	if i < 0 {
		return after, Event{api.OutcomeBlocked, 0, -1}
	}
	e := ended(func() { referenceCommand(p, g, &after, i, reads) })
	if e != (end{}) {
		return copied(c), Event{e.outcome, e.check, i}
	}
	return after, Event{0, 0, i}
}

// referenceCommand executes the command of an edge.
func referenceCommand(p api.Program, g []api.Graph, c *api.Config, edge int, reads []api.Int) {
	f := &c.Frames[len(c.Frames)-1]
	e := g[f.Proc].Edges[edge]
	k := e.Command
	value := func(x api.Expr) api.Int { return api.Int(eval(x, f.Vars).String()) }
	element := func() *api.Int {
		list, index := f.Arrays[k.Array], eval(k.Index, f.Vars)
		for i := range list {
			if index.Cmp(big.NewInt(int64(i))) == 0 {
				return &list[i]
			}
		}
		panic(end{api.OutcomeFailed, api.CheckIndex})
	}
	switch k.Op {
	case api.CmdAssign:
		f.Vars[k.Var] = value(k.Expr)
	case api.CmdInput:
		if c.Reads >= len(reads) {
			panic(end{api.OutcomeStarved, 0})
		}
		f.Vars[k.Var] = reads[c.Reads]
		c.Reads++
	case api.CmdLoad:
		f.Vars[k.Var] = *element()
	case api.CmdStore:
		to := element()
		*to = value(k.Expr)
	case api.CmdCheck:
		if !holds(k.Cond, f.Vars) {
			panic(end{api.OutcomeFailed, k.Check})
		}
	case api.CmdCall:
		q := p.Procs[k.Proc]
		if q.Extern {
			panic(end{api.OutcomeBlocked, 0})
		}
		next := api.Frame{Proc: k.Proc}
		for _, a := range k.Args {
			next.Vars = append(next.Vars, value(a))
		}
		if len(c.Frames) >= 32 {
			panic(end{api.OutcomeDeep, 0})
		}
		for len(next.Vars) < len(q.Vars) {
			next.Vars = append(next.Vars, "0")
		}
		for _, a := range q.Arrays {
			var list []api.Int
			for range a.Len {
				list = append(list, "0")
			}
			next.Arrays = append(next.Arrays, list)
		}
		c.Frames = append(c.Frames, next)
		return
	}
	f.Point = e.To
}
