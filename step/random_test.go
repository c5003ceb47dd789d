package step

import (
	"fmt"
	"math/rand"
	"slices"
	"strings"
	"testing"

	"surveyor/api"
	"surveyor/program"
)

// This file has random graphs, which are not those of any statements, with random configurations, and steps of graphs that are built.

// generator makes graphs and configurations of a program.
type generator struct {
	*rand.Rand
	p api.Program
	g []api.Graph
}

func (r *generator) number() api.Int {
	if r.Intn(12) == 0 {
		return []api.Int{nines, "-" + nines}[r.Intn(2)]
	}
	return api.Int(fmt.Sprint(r.Intn(7) - 2))
}

func (r *generator) numbers(n int) []api.Int {
	var list []api.Int
	for range n {
		list = append(list, r.number())
	}
	return list
}

func (r *generator) expr(n, depth int) api.Expr {
	switch op := api.ExprNeg + r.Intn(6); {
	case n > 0 && (depth <= 1 || r.Intn(3) == 0) && r.Intn(3) > 0:
		return api.Expr{Op: api.ExprVar, Var: r.Intn(n)}
	case depth <= 1 || r.Intn(3) == 0:
		return api.Expr{Num: r.number()}
	case op == api.ExprNeg:
		return api.Expr{Op: op, Args: []api.Expr{r.expr(n, depth-1)}}
	default:
		return api.Expr{Op: op, Args: []api.Expr{r.expr(n, depth-1), r.expr(n, depth-1)}}
	}
}

func (r *generator) cond(n, depth int) api.Cond {
	switch op := r.Intn(9); {
	case op <= api.CondFalse:
		return api.Cond{Op: op}
	case op <= api.CondLe || depth <= 1:
		return api.Cond{Op: api.CondEq + r.Intn(4), Exprs: []api.Expr{r.expr(n, 2), r.expr(n, 2)}}
	case op == api.CondNot:
		return api.Cond{Op: op, Args: []api.Cond{r.cond(n, depth-1)}}
	default:
		return api.Cond{Op: op, Args: []api.Cond{r.cond(n, depth-1), r.cond(n, depth-1)}}
	}
}

// command returns a command of a procedure, if it can have one of this operation.
func (r *generator) command(q api.Proc, op int) api.Command {
	c := api.Command{Op: op}
	n, targets := len(q.Vars), len(q.Vars)-q.Params
	if (op == api.CmdAssign || op == api.CmdInput || op == api.CmdLoad) && targets > 0 {
		c.Var = q.Params + r.Intn(targets)
	}
	hasArray := len(q.Arrays) > 0
	switch {
	case op == api.CmdAssign && targets > 0:
		c.Expr = r.expr(n, 3)
	case op == api.CmdInput && targets > 0:
	case op == api.CmdLoad && targets > 0 && hasArray:
		c.Array, c.Index = r.Intn(len(q.Arrays)), r.expr(n, 2)
	case op == api.CmdStore && hasArray:
		c.Array, c.Index, c.Expr = r.Intn(len(q.Arrays)), r.expr(n, 2), r.expr(n, 2)
	case op == api.CmdAssume:
		c.Cond = r.cond(n, 3)
	case op == api.CmdCheck:
		c.Check, c.Cond = api.CheckAssert+r.Intn(5), r.cond(n, 3)
	case op == api.CmdCall:
		return r.call(q)
	default:
		return api.Command{}
	}
	return c
}

// call returns a call of a procedure whose results have enough variables.
func (r *generator) call(q api.Proc) api.Command {
	c := api.Command{Op: api.CmdCall, Proc: r.Intn(len(r.p.Procs))}
	free := r.Perm(len(q.Vars) - q.Params)
	if called := r.p.Procs[c.Proc]; len(free) >= called.Results {
		for _, v := range free[:called.Results] {
			c.Results = append(c.Results, q.Params+v)
		}
		for range called.Params {
			c.Args = append(c.Args, r.expr(len(q.Vars), 2))
		}
		return c
	}
	return api.Command{Op: api.CmdCall, Proc: 2}
}

// graphs makes graphs with few points, and so with many edges at each of them.
func (r *generator) graphs() {
	r.g = nil
	for _, q := range r.p.Procs {
		g := api.Graph{Points: 1 + r.Intn(3)}
		g.Exit = r.Intn(g.Points)
		for range r.Intn(9) {
			op := []int{api.CmdSkip, api.CmdAssign, api.CmdInput, api.CmdLoad, api.CmdStore, api.CmdAssume, api.CmdAssume, api.CmdAssume, api.CmdAssume, api.CmdCheck, api.CmdCall, api.CmdCall, api.CmdCall}[r.Intn(13)]
			if !q.Extern {
				g.Edges = append(g.Edges, api.Edge{From: r.Intn(g.Points), To: r.Intn(g.Points), Command: r.command(q, op)})
			}
		}
		r.g = append(r.g, g)
	}
}

// frame returns a frame of a procedure at a point.
func (r *generator) frame(proc, point int) api.Frame {
	q := r.p.Procs[proc]
	f := api.Frame{Proc: proc, Point: point, Vars: r.numbers(len(q.Vars))}
	for _, a := range q.Arrays {
		f.Arrays = append(f.Arrays, r.numbers(a.Len))
	}
	return f
}

// config returns a configuration: from the innermost frame on, frames are added that call the one before.
func (r *generator) config() api.Config {
	proc := r.Intn(3)
	frames := []api.Frame{r.frame(proc, r.Intn(r.g[proc].Points))}
	for most := []int{1, 2, 3, 32}[r.Intn(4)]; len(frames) < most; {
		var callers []api.Frame
		for i, g := range r.g {
			for _, e := range g.Edges {
				if e.Command.Op == api.CmdCall && e.Command.Proc == frames[0].Proc {
					callers = append(callers, api.Frame{Proc: i, Point: e.From})
				}
			}
		}
		if len(callers) == 0 {
			break
		}
		caller := callers[r.Intn(len(callers))]
		frames = slices.Insert(frames, 0, r.frame(caller.Proc, caller.Point))
	}
	return api.Config{Frames: frames, Reads: []int{0, 1, 2, 63, 64}[r.Intn(5)]}
}

// mutate changes something in a configuration, so that it may be wrong.
func (r *generator) mutate(c *api.Config) {
	f := &c.Frames[r.Intn(len(c.Frames))]
	switch wrong := []api.Int{"", "-0", "00", "x", huge, "-" + huge, nines}[r.Intn(7)]; r.Intn(9) {
	case 0:
		c.Reads = []int{-1, 0, 64, 65}[r.Intn(4)]
	case 1:
		c.Frames = append(c.Frames, c.Frames...)
	case 2:
		c.Frames = slices.Delete(c.Frames, 0, 1)
	case 3:
		f.Proc += r.Intn(5) - 2
	case 4:
		f.Point += r.Intn(5) - 2
	case 5:
		f.Vars = append(f.Vars, "1")
	case 6:
		f.Arrays = append(f.Arrays, []api.Int{})
	case 7:
		if len(f.Vars) > 0 {
			f.Vars[r.Intn(len(f.Vars))] = wrong
		}
	case 8:
		if len(f.Arrays) > 0 {
			list := &f.Arrays[r.Intn(len(f.Arrays))]
			*list = slices.Concat(*list, []api.Int{"0"}[:r.Intn(2)])
			(*list)[0] = wrong
		}
	}
}

// TestRandom compares everything with the references (P17.1 and P17.2).
func TestRandom(t *testing.T) {
	r := &generator{Rand: rand.New(rand.NewSource(17)), p: read(t, source(0, ""))}
	ends, errors := map[int]int{}, map[api.Errno]int{}
	for range 4000 {
		r.graphs()
		c := r.config()
		what := fmt.Sprintf("%+v with %+v", c, r.g)
		reads := r.numbers([]int{c.Reads, min(c.Reads+1, 64), 64}[r.Intn(3)])
		wanted, wantedEvent := referenceStep(r.p, r.g, c, reads)
		after, v, e := Step(r.p, r.g, c, reads)
		want(t, "Step from "+what, after, wanted, e, api.OK)
		want(t, "Step from "+what, v, wantedEvent, e, api.OK)
		wantConsequences(t, what, r.p, r.g, c, reads)
		i, k := referenceTaken(r.g, c)
		edge, v, e := Taken(r.p, r.g, c)
		want(t, "Taken from "+what, []any{edge, v}, []any{i, k}, e, api.OK)
		for i := range len(c.Frames) - 1 {
			edge, e := Call(r.p, r.g, c, i)
			want(t, "Call from "+what, edge, referenceCall(r.g, c, i), e, api.OK)
		}
		ends[wantedEvent.Outcome]++
		r.mutate(&c)
		fault := referenceCheck(r.p, r.g, c)
		errors[fault]++
		want(t, fmt.Sprintf("Check of %+v with %+v", c, r.g), Check(r.p, r.g, c), fault, 0, 0)
	}
	// Each outcome and each error has to occur.
	if len(ends) != 7 {
		t.Errorf("not all outcomes have occurred: %v", ends)
	}
	for _, e := range []api.Errno{api.OK, api.ErrEmpty, api.ErrMany, api.ErrRange, api.ErrNone, api.ErrUse, api.ErrShape, api.ErrForm, api.ErrLarge, api.ErrGap} {
		if errors[e] == 0 {
			t.Errorf("no error %d in %v", e, errors)
		}
	}
}

// wantConsequences checks P17.3 for a step, and returns what it returns.
func wantConsequences(t *testing.T, what string, p api.Program, g []api.Graph, c api.Config, reads []api.Int) (api.Config, Event) {
	t.Helper()
	after, v, e := Step(p, g, c, reads)
	fail := func(claim string) { t.Errorf("Step from %.900s: %s: %+v, %+v, %d", what, claim, after, v, e) }
	if e != api.OK || Check(p, g, after) != api.OK {
		fail("no configuration")
		return after, v
	}
	if v.Outcome != api.OutcomeRunning && !Same(after, c) {
		fail("something has changed")
	}
	if after.Reads < c.Reads || after.Reads > c.Reads+1 || after.Reads > len(reads) {
		fail("too many numbers are read")
	}
	kept := max(len(c.Frames)-2, 0)
	if !Same(api.Config{Frames: after.Frames[:kept]}, api.Config{Frames: c.Frames[:kept]}) || len(after.Frames) < len(c.Frames)-1 || len(after.Frames) > len(c.Frames)+1 {
		fail("an outer frame has changed")
	}
	edge, fault, _ := Taken(p, g, c)
	f := c.Frames[len(c.Frames)-1]
	switch atExit := f.Point == g[f.Proc].Exit; {
	case atExit && edge != -1, fault.Outcome != api.OutcomeRunning && (edge != -1 || fault != v):
		fail("wrong event of a condition")
	case !atExit && fault.Outcome == api.OutcomeRunning && edge != v.Edge:
		fail("wrong edge")
	}
	return after, v
}

// programs are run in graphs that are built.
var programs = []string{
	"proc main(n) returns (s) { var i; while i < n { i := i + 1; s := s + i; } assert s != 3; }",
	"proc main(n) { array a[3]; var i; while i < 3 { a[i] := n - i; i := i + 1; } i := a[n]; assume i != 0; i := 6 / (n - 2); }",
	"proc main(n, m) returns (q, r) { assume m > 0; if n < 0 { q, r := f(-n, m); q := -q; } else { q, r := f(n, m); } assert r < m; } proc f(n, m) returns (q, r) { r := n; while r >= m { r := r - m; q := q + 1; } }",
	"proc main(n) returns (r) { r := fac(n); } proc fac(n) returns (r) { var k; if n > 0 { k := fac(n - 1); r := n * k; } else { r := 1; } assert n < 5; }",
	"proc main(n) { main(n + 1); assert false; }",
	"proc main(n) returns (s) { var k, l; array a[4]; while k >= 0 { k := input; if k < 4 { l := h(k); a[k] := l; } s := s + 10 / (k - 2); } } proc h(k) returns (r) { r := 100 % k; }",
	"proc main(n) returns (s) { s := n; while s * s < N { s := s * s + 1; } assert n < 3; }",
	"proc main(n) { if n = 1 { assume n = 2; } else if n = 2 { while n / 0 = 1 { } } else { f(); } } proc f() { var k; k := input; assume k < 5; k := input; g(k); } proc g(x) { assert x = 1 or 2 % x = 0; }",
}

// TestP17_3Built runs programs: they are blocked only at assumptions of the text, and fail only at checks.
func TestP17_3Built(t *testing.T) {
	r := rand.New(rand.NewSource(3))
	seen := map[int]int{}
	for _, src := range programs {
		p, g := built(t, src)
		main, _ := program.Find(p, "main")
		for range 40 {
			var x api.Input
			for range p.Procs[main].Params {
				x.Args = append(x.Args, api.Int(fmt.Sprint(r.Intn(9)-3)))
			}
			for range r.Intn(4) {
				x.Reads = append(x.Reads, api.Int(fmt.Sprint(r.Intn(8)-1)))
			}
			c, e := Begin(p, g, x)
			want(t, "Begin", Check(p, g, c), api.OK, e, api.OK)
			var v Event
			for count := 0; count < 300 && v.Outcome == api.OutcomeRunning; count++ {
				before := c
				c, v = wantConsequences(t, src, p, g, c, x.Reads)
				wantCause(t, strings.ReplaceAll(src, "N", string(nines)), g, before, v)
			}
			seen[v.Outcome]++
		}
	}
	if seen[api.OutcomeRunning] > 0 || len(seen) != 6 {
		t.Errorf("other outcomes than those of runs that end: %v", seen)
	}
}

// wantCause checks why a step of a graph that is built does not succeed.
func wantCause(t *testing.T, src string, g []api.Graph, c api.Config, v Event) {
	t.Helper()
	f := c.Frames[len(c.Frames)-1]
	edges := g[f.Proc].Edges
	switch v.Outcome {
	case api.OutcomeFailed:
		if command := edges[v.Edge].Command; command.Op != api.CmdCheck || command.Check != v.Check {
			t.Errorf("%s fails with %+v at %+v", src, v, command)
		}
	case api.OutcomeBlocked:
		leaving := slices.DeleteFunc(slices.Clone(edges), func(e api.Edge) bool { return e.From != f.Point })
		if len(leaving) != 1 || leaving[0].Command.Op != api.CmdAssume || !strings.HasPrefix(src[leaving[0].Command.At:], "assume ") {
			t.Errorf("%s is blocked at %+v", src, leaving)
		}
	}
}
