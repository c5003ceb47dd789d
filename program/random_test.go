package program

import (
	"fmt"
	"math/rand"
	"reflect"
	"strings"
	"testing"

	"surveyor/api"
)

// This file has random programs, and what is compared for them.

// generator makes the statements of a procedure.
type generator struct {
	*rand.Rand
	procs []api.Proc
	proc  api.Proc
	at    int
}

func (g *generator) expr(depth int) api.Expr {
	if depth <= 1 || g.Intn(3) == 0 {
		if n := len(g.proc.Vars); n > 0 && g.Intn(3) > 0 {
			return variable(g.Intn(n))
		}
		if g.Intn(40) == 0 {
			return num([]api.Int{nines, "-" + nines, "4294967296"}[g.Intn(3)])
		}
		return num(api.Int(fmt.Sprint(g.Intn(6) - 1)))
	}
	op := []int{api.ExprNeg, api.ExprAdd, api.ExprAdd, api.ExprSub, api.ExprMul, api.ExprDiv, api.ExprMod}[g.Intn(7)]
	if op == api.ExprNeg {
		return node(op, g.expr(depth-1))
	}
	return node(op, g.expr(depth-1), g.expr(depth-1))
}

func (g *generator) cond(depth int) api.Cond {
	if depth <= 1 || g.Intn(3) > 0 {
		if g.Intn(6) == 0 {
			return api.Cond{}
		}
		return api.Cond{Op: api.CondEq + g.Intn(4), Exprs: []api.Expr{g.expr(2), g.expr(2)}}
	}
	op := api.CondNot + g.Intn(3)
	c := api.Cond{Op: op, Args: []api.Cond{g.cond(depth - 1)}}
	if op != api.CondNot {
		c.Args = append(c.Args, g.cond(depth-1))
	}
	return c
}

// target returns a variable that may be assigned.
func (g *generator) target() int {
	return g.proc.Params + g.Intn(len(g.proc.Vars)-g.proc.Params)
}

func (g *generator) body(length, depth int) []api.Stmt {
	var body []api.Stmt
	for range g.Intn(length + 1) {
		body = append(body, g.stmt(depth))
	}
	return body
}

func (g *generator) stmt(depth int) api.Stmt {
	g.at += 1 + g.Intn(9)
	s := api.Stmt{Op: []int{0, 0, 0, 0, 1, 2, 2, 3, 3, 3, 4, 4, 5, 5, 6, 7, 8, 8}[g.Intn(18)], At: g.at}
	hasTarget := len(g.proc.Vars) > g.proc.Params
	if depth == 1 && (s.Op == api.StmtIf || s.Op == api.StmtWhile) || len(g.proc.Arrays) == 0 && (s.Op == api.StmtLoad || s.Op == api.StmtStore) {
		s.Op = api.StmtAssign
	}
	if !hasTarget && s.Op <= api.StmtLoad {
		s.Op = api.StmtAssert
	}
	if strings.Contains(fields[s.Op], "V") {
		s.Var = g.target()
	}
	if strings.Contains(fields[s.Op], "A") {
		s.Array = g.Intn(len(g.proc.Arrays))
		s.Index = num(api.Int(fmt.Sprint(g.Intn(2))))
		if g.Intn(2) == 0 {
			s.Index = g.expr(2)
		}
	}
	if strings.Contains(fields[s.Op], "E") {
		s.Expr = g.expr(3)
	}
	if strings.Contains(fields[s.Op], "C") {
		s.Cond = g.cond(3)
	}
	switch s.Op {
	case api.StmtIf:
		s.Body, s.Else = g.body(3, depth-1), g.body(2, depth-1)
	case api.StmtWhile:
		s.Body = g.body(3, depth-1)
	case api.StmtCall:
		g.call(&s)
	}
	return s
}

// call makes a statement a call of a procedure whose results have enough variables, or an assertion.
func (g *generator) call(s *api.Stmt) {
	s.Proc = g.Intn(len(g.procs))
	called := g.procs[s.Proc]
	free := g.Perm(len(g.proc.Vars) - g.proc.Params)
	if called.Results > len(free) {
		*s = api.Stmt{Op: api.StmtAssert, At: s.At, Cond: g.cond(2)}
		return
	}
	for range called.Params {
		s.Args = append(s.Args, g.expr(2))
	}
	for _, v := range free[:called.Results] {
		s.Results = append(s.Results, g.proc.Params+v)
	}
}

// random returns a well-formed program.
func random(r *rand.Rand) api.Program {
	var procs []api.Proc
	for _, name := range []string{"f", "main", "g"}[:2+r.Intn(2)] {
		q := api.Proc{Name: name, Params: r.Intn(3), Results: r.Intn(3)}
		for i := range q.Params + q.Results + r.Intn(4) {
			q.Vars = append(q.Vars, []string{"x", "r.u", "r.v", "y", "p", "q.u", "z", "i"}[i])
		}
		for i := range r.Intn(3) {
			q.Arrays = append(q.Arrays, api.Array{Name: []string{"a", "b"}[i], Len: 1 + r.Intn(4)})
		}
		procs = append(procs, q)
	}
	r.Shuffle(len(procs), func(i, j int) { procs[i], procs[j] = procs[j], procs[i] })
	g := &generator{Rand: r, procs: procs}
	for i := range procs {
		g.proc = procs[i]
		procs[i].Body = g.body(6, 3)
		g.proc.Vars = g.proc.Vars[:g.proc.Params]
		procs[i].Requires = g.cond(2)
		g.proc.Vars = procs[i].Vars[:g.proc.Params+g.proc.Results]
		procs[i].Ensures = g.cond(2)
	}
	return api.Program{Procs: procs}
}

// randomInput returns an input for a program.
func randomInput(r *rand.Rand, p api.Program) api.Input {
	var x api.Input
	for _, q := range p.Procs {
		if q.Name == "main" {
			for range q.Params {
				x.Args = append(x.Args, api.Int(fmt.Sprint(r.Intn(7)-2)))
			}
		}
	}
	for range r.Intn(4) {
		x.Reads = append(x.Reads, api.Int(fmt.Sprint(r.Intn(7)-2)))
	}
	if len(x.Args) > 0 && r.Intn(10) == 0 {
		x.Args[0] = nines
	}
	return x
}

// copied returns a program in other memory; lists without elements are nil.
func copied(p api.Program) api.Program {
	var out api.Program
	for _, q := range p.Procs {
		q.Vars = append([]string(nil), q.Vars...)
		q.Arrays = append([]api.Array(nil), q.Arrays...)
		q.Requires, q.Ensures = copiedCond(q.Requires), copiedCond(q.Ensures)
		q.Body = copiedBody(q.Body)
		out.Procs = append(out.Procs, q)
	}
	return out
}

func copiedBody(body []api.Stmt) []api.Stmt {
	var out []api.Stmt
	for _, s := range body {
		s.Index, s.Expr, s.Cond = copiedExpr(s.Index), copiedExpr(s.Expr), copiedCond(s.Cond)
		s.Args = copiedExpr(api.Expr{Args: s.Args}).Args
		s.Results = append([]int(nil), s.Results...)
		s.Body, s.Else = copiedBody(s.Body), copiedBody(s.Else)
		out = append(out, s)
	}
	return out
}

func copiedExpr(e api.Expr) api.Expr {
	args := e.Args
	e.Args = nil
	for _, a := range args {
		e.Args = append(e.Args, copiedExpr(a))
	}
	return e
}

func copiedCond(c api.Cond) api.Cond {
	out := api.Cond{Op: c.Op, Exprs: copiedExpr(api.Expr{Args: c.Exprs}).Args}
	for _, a := range c.Args {
		out.Args = append(out.Args, copiedCond(a))
	}
	return out
}

// mutate changes something in a program, so that it may be wrong.
func mutate(r *rand.Rand, p *api.Program) {
	q := &p.Procs[r.Intn(len(p.Procs))]
	if len(q.Body) > 0 && r.Intn(3) > 0 {
		mutateBody(r, q.Body)
		return
	}
	names := []string{"", "x", "main", "f", "if", "x.y", "x.", ".x", "x.y.z", "x.if", strings.Repeat("n", 25), "1", "a", "b", "r.u"}
	wrong := []api.Cond{{Op: 9}, {Op: api.CondEq}, {Op: api.CondEq, Exprs: []api.Expr{variable(r.Intn(5)), num("1")}}, {Op: api.CondNot, Args: []api.Cond{{}}}}
	switch r.Intn(13) {
	case 0:
		q.Name = names[r.Intn(len(names))]
	case 1:
		q.Params += r.Intn(3) - 1
	case 2:
		q.Results += r.Intn(3) - 1
	case 3:
		q.Vars = append(q.Vars, names[r.Intn(len(names))])
	case 4:
		q.Vars = q.Vars[:len(q.Vars)/2]
	case 5:
		if len(q.Vars) > 0 {
			q.Vars[r.Intn(len(q.Vars))] = names[r.Intn(len(names))]
		}
	case 6:
		q.Arrays = append(q.Arrays, api.Array{Name: names[r.Intn(len(names))], Len: []int{-1, 0, 1, 32, 33}[r.Intn(5)]})
	case 7:
		if len(q.Arrays) > 0 {
			q.Arrays[r.Intn(len(q.Arrays))] = api.Array{Name: names[r.Intn(len(names))], Len: []int{-1, 0, 1, 32, 33}[r.Intn(5)]}
		}
	case 8:
		q.Requires = wrong[r.Intn(4)]
	case 9:
		q.Ensures = wrong[r.Intn(4)]
	case 10:
		q.Extern = true
		if r.Intn(2) == 0 {
			q.Body, q.Arrays = nil, nil
		}
	case 11:
		for len(list(q.Body)) < 120 && len(q.Body) > 0 {
			q.Body = append(q.Body, copiedBody(q.Body)...)
		}
	case 12:
		p.Procs = append(p.Procs, api.Proc{Name: fmt.Sprint("p", r.Intn(30))})
	}
}

func mutateBody(r *rand.Rand, body []api.Stmt) {
	s := &body[r.Intn(len(body))]
	for len(s.Body) > 0 && r.Intn(2) > 0 {
		s = &s.Body[r.Intn(len(s.Body))]
	}
	exprs := []api.Expr{{}, num("1"), num("-0"), num(huge), variable(r.Intn(5)), node(9), node(api.ExprNeg)}
	switch r.Intn(14) {
	case 0:
		s.Op = r.Intn(12) - 1
	case 1:
		s.At = []int{-1, 0, 65536, 65537}[r.Intn(4)]
	case 2:
		s.Var = r.Intn(8) - 1
	case 3:
		s.Array = r.Intn(4) - 1
	case 4:
		s.Proc = r.Intn(5) - 1
	case 5:
		s.Index = exprs[r.Intn(7)]
	case 6:
		s.Expr = exprs[r.Intn(7)]
	case 7:
		s.Cond = []api.Cond{{Op: 1}, {Op: 9}, {Op: api.CondAnd}, {Exprs: []api.Expr{{}}}, {Op: api.CondEq, Exprs: []api.Expr{exprs[r.Intn(7)], exprs[r.Intn(7)]}}}[r.Intn(5)]
	case 8:
		s.Args = append(s.Args, exprs[r.Intn(7)])
	case 9:
		if len(s.Args) > 0 {
			s.Args[r.Intn(len(s.Args))] = exprs[r.Intn(7)]
		}
	case 10:
		s.Results = append(s.Results, r.Intn(6)-1)
	case 11:
		if len(s.Results) > 0 {
			s.Results[r.Intn(len(s.Results))] = r.Intn(7) - 1
		}
	case 12:
		s.Body = append(s.Body, api.Stmt{Op: api.StmtAssert})
	case 13:
		for range 1 + r.Intn(16) {
			s.Else = []api.Stmt{{Op: api.StmtIf, Body: s.Body, Else: s.Else}}
		}
	}
}

func TestP14_1Random(t *testing.T) {
	r := rand.New(rand.NewSource(1))
	counts := map[api.Errno]int{}
	for range 12000 {
		p := random(r)
		q := copied(p)
		if Check(p) != api.OK || !Same(p, q) {
			t.Errorf("Check of %+v: %d, Same: %t", p, Check(p), Same(p, q))
		}
		for i, proc := range p.Procs {
			count, depth, e := Size(p, i)
			want(t, "Size", []int{count, depth}, []int{len(list(proc.Body)), depthOf(proc.Body)}, e, api.OK)
		}
		for range 1 + r.Intn(3) {
			mutate(r, &q)
		}
		fault := referenceCheck(q)
		counts[fault]++
		if got := Check(q); got != fault {
			t.Errorf("Check of %+v: got %d, want %d", q, got, fault)
		}
		q = copied(q) // so that lists without elements are nil
		isEqual := reflect.DeepEqual(copied(p), q)
		if Same(p, q) != isEqual || Same(q, p) != isEqual {
			t.Errorf("Same of %+v and %+v: want %t", p, q, isEqual)
		}
	}
	for _, fault := range []api.Errno{api.OK, api.ErrArg, api.ErrRange, api.ErrForm, api.ErrMany, api.ErrNone, api.ErrTwice, api.ErrName, api.ErrLarge, api.ErrUse, api.ErrDeep, api.ErrShape} {
		if counts[fault] < 30 {
			t.Errorf("only %d programs have the error %d", counts[fault], fault)
		}
	}
}

func TestP14_2Random(t *testing.T) {
	r := rand.New(rand.NewSource(2))
	counts := map[[2]int]int{}
	for range 15000 {
		p := random(r)
		x, fuel := randomInput(r, p), []int{r.Intn(10), r.Intn(60), 500}[r.Intn(3)]
		result, e := Exec(p, x, fuel)
		want(t, fmt.Sprintf("Exec of %+v with %+v and %d", p, x, fuel), result, referenceExec(p, x, fuel), e, api.OK)
		counts[[2]int{result.Outcome, result.Check}]++
	}
	for _, kind := range [][2]int{{api.OutcomeRunning}, {api.OutcomeDone}, {api.OutcomeFailed, api.CheckAssert}, {api.OutcomeFailed, api.CheckDivide}, {api.OutcomeFailed, api.CheckIndex}, {api.OutcomeBlocked}, {api.OutcomeStarved}, {api.OutcomeLarge}, {api.OutcomeDeep}} {
		if counts[kind] < 100 {
			t.Errorf("only %d runs have the outcome and the check %v", counts[kind], kind)
		}
	}
}

// TestP14_3Fuel has runs with more fuel, and with less.
func TestP14_3Fuel(t *testing.T) {
	r := rand.New(rand.NewSource(3))
	count := 0
	for range 3000 {
		p := random(r)
		x := randomInput(r, p)
		result, _ := Exec(p, x, 100)
		if result.Used > 100 {
			t.Errorf("%+v uses too much fuel", p)
		}
		if result.Outcome == api.OutcomeRunning {
			continue
		}
		count++
		for _, fuel := range []int{result.Used, result.Used + 1, 101, api.MaxSteps} {
			again, e := Exec(p, x, fuel)
			want(t, fmt.Sprintf("Exec of %+v with %d", p, fuel), again, result, e, api.OK)
		}
		if result.Used > 0 {
			fuel := r.Intn(result.Used)
			less, _ := Exec(p, x, fuel)
			want(t, fmt.Sprintf("Exec of %+v with %d", p, fuel), less, Result{Used: fuel, Reads: less.Reads}, 0, 0)
		}
	}
	if count < 1000 {
		t.Errorf("only %d runs end", count)
	}
}

// TestP14_3Unused has numbers that are not read, and procedures that are not called.
func TestP14_3Unused(t *testing.T) {
	r := rand.New(rand.NewSource(4))
	for range 3000 {
		p := random(r)
		x := randomInput(r, p)
		result, _ := Exec(p, x, 200)
		what := fmt.Sprintf("Exec of %+v with %+v", p, x)
		if result.Outcome != api.OutcomeStarved {
			more := api.Input{Args: x.Args, Reads: append(append([]api.Int{}, x.Reads[:result.Reads]...), "77", nines)}
			again, e := Exec(p, more, 200)
			want(t, what, again, result, e, api.OK)
			again, e = Exec(p, api.Input{Args: x.Args, Reads: x.Reads[:result.Reads]}, 200)
			want(t, what, again, result, e, api.OK)
		}
		main, _ := Find(p, "main")
		reached := reachedFrom(t, p, main)
		q := copied(p)
		for i := range q.Procs {
			if !reached[i] {
				q.Procs[i].Body = []api.Stmt{{Op: api.StmtAssert, Cond: api.Cond{Op: api.CondFalse}}}
			}
		}
		q.Procs = append(q.Procs, api.Proc{Name: "unused", Body: []api.Stmt{{Op: api.StmtCall, Proc: len(q.Procs)}}})
		again, e := Exec(q, x, 200)
		want(t, what, again, result, e, api.OK)
	}
}

// reachedFrom returns the procedures that a procedure calls, directly or not, and itself.
func reachedFrom(t *testing.T, p api.Program, proc int) map[int]bool {
	reached := map[int]bool{}
	work := []int{proc}
	for len(work) > 0 {
		next := work[0]
		work = work[1:]
		if !reached[next] {
			reached[next] = true
			called, e := Calls(p, next)
			want(t, "Calls", e, api.OK, 0, 0)
			work = append(work, called...)
		}
	}
	return reached
}
