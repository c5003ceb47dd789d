package cfg

import (
	"fmt"
	"testing"

	"surveyor/api"
)

func TestP15_1Format(t *testing.T) {
	p := read(t, "record point { u, v } proc main(n) returns (s) { var x; array a[4]; } import proc f(a, b) returns (c, d); proc g() { } proc h(p: point) returns (q: point) { array t[1]; }")
	x, sum := variable(2), node(api.ExprAdd, variable(0), node(api.ExprSub, num("1"), num("-2")))
	less := compared(api.CondLt, x, sum)
	for _, c := range []struct {
		proc    int
		command api.Command
		text    string
	}{
		{0, api.Command{}, "skip"}, {1, api.Command{At: 65536}, "skip"},
		{0, api.Command{Op: api.CmdAssign, Var: 2, Expr: sum}, "x := n + (1 - -2)"}, {0, api.Command{Op: api.CmdAssign, Var: 1, Expr: num("-5")}, "s := -5"}, {1, api.Command{Op: api.CmdAssign, Var: 3, Expr: variable(0)}, "d := a"}, {3, api.Command{Op: api.CmdAssign, Var: 3, Expr: variable(0)}, "q.v := p.u"},
		{0, api.Command{Op: api.CmdInput, Var: 1}, "s := input"}, {3, api.Command{Op: api.CmdInput, Var: 2}, "q.u := input"},
		{0, api.Command{Op: api.CmdLoad, Var: 2, Index: sum}, "x := a[n + (1 - -2)]"}, {3, api.Command{Op: api.CmdLoad, Var: 2, Index: variable(1)}, "q.u := t[p.v]"},
		{0, api.Command{Op: api.CmdStore, Index: x, Expr: node(api.ExprMul, sum, x)}, "a[x] := (n + (1 - -2)) * x"},
		{0, api.Command{Op: api.CmdAssume, Cond: api.Cond{}}, "assume true"}, {0, api.Command{Op: api.CmdAssume, Cond: less}, "assume x < n + (1 - -2)"}, {0, api.Command{Op: api.CmdAssume, Cond: api.Cond{Op: api.CondNot, Args: []api.Cond{{Op: api.CondOr, Args: []api.Cond{less, {Op: api.CondFalse}}}}}}, "assume not (x < n + (1 - -2) or false)"},
		{0, api.Command{Op: api.CmdCheck, Check: api.CheckAssert, Cond: less}, "assert x < n + (1 - -2)"}, {0, api.Command{Op: api.CmdCheck, Check: api.CheckDivide, Cond: less}, "divide x < n + (1 - -2)"}, {0, api.Command{Op: api.CmdCheck, Check: api.CheckIndex, Cond: less}, "index x < n + (1 - -2)"}, {0, api.Command{Op: api.CmdCheck, Check: api.CheckRequires}, "requires true"}, {0, api.Command{Op: api.CmdCheck, Check: api.CheckEnsures, Cond: api.Cond{Op: api.CondFalse}}, "ensures false"},
		{0, api.Command{Op: api.CmdCall, Proc: 2}, "g()"}, {0, api.Command{Op: api.CmdCall, Proc: 0, Args: []api.Expr{sum}, Results: []int{2}}, "x := main(n + (1 - -2))"}, {0, api.Command{Op: api.CmdCall, Proc: 1, Args: []api.Expr{sum, x}, Results: []int{2, 1}}, "x, s := f(n + (1 - -2), x)"}, {3, api.Command{Op: api.CmdCall, Proc: 3, Args: []api.Expr{variable(2), variable(0)}, Results: []int{2, 3}}, "q.u, q.v := h(q.u, p.u)"},
	} {
		text, e := Format(p, c.proc, c.command)
		want(t, fmt.Sprintf("Format of %+v", c.command), text, c.text, e, api.OK)
	}
	p = read(t, "proc main() returns (s) { s := f(); } proc f() returns (s) { } proc g(x) { }")
	text, e := Format(p, 0, api.Command{Op: api.CmdCall, Proc: 1, Results: []int{0}})
	want(t, "Format", text, "s := f()", e, api.OK)
	text, e = Format(p, 0, api.Command{Op: api.CmdCall, Proc: 2, Args: []api.Expr{num("1")}})
	want(t, "Format", text, "g(1)", e, api.OK)
}

// TestP15_1FormatErrors has commands that are wrong, procedures that do not exist, and programs that are not well-formed.
func TestP15_1FormatErrors(t *testing.T) {
	for _, c := range commandEdits() {
		_, l := edited(t, c)
		p := read(t, base)
		for _, edge := range l[1].Edges {
			wanted := referenceCommand(p, 1, edge.Command)
			text, e := Format(p, 1, edge.Command)
			want(t, "Format with "+c.what, text == "", wanted != api.OK, e, wanted)
			for _, proc := range []int{-1, 3, 1 << 40, -1 << 63} {
				text, e := Format(p, proc, edge.Command)
				want(t, "Format with "+c.what, text, "", e, api.ErrNone)
			}
		}
	}
	for _, c := range graphEdits()[:2] {
		p, _ := edited(t, c)
		for _, proc := range []int{0, 3} {
			text, e := Format(p, proc, api.Command{Op: 9})
			want(t, "Format with "+c.what, text, "", e, c.e)
		}
	}
	text, e := Format(api.Program{}, 0, api.Command{})
	want(t, "Format", text, "", e, api.ErrNone)
}

func TestP15_1Spots(t *testing.T) {
	p := read(t, base)
	spots, e := Spots(p, built(t, p))
	want(t, "Spots", spots, []api.Spot{{Proc: 1, Edge: 2}, {Proc: 1, Edge: 4}, {Proc: 1, Edge: 7}}, e, api.OK)
	p = read(t, "proc main() { assert true; } import proc f(); proc g(x) { assume x = 1; while x / x < 1 { assert x = 2; } x0(); } proc x0() { }")
	l := built(t, p)
	spots, e = Spots(p, l)
	want(t, "Spots", spots, []api.Spot{{Proc: 0, Edge: 0}, {Proc: 2, Edge: 2}, {Proc: 2, Edge: 4}}, e, api.OK)
	// All kinds of checks, and graphs that are not built.
	l[0].Edges = nil
	for check := api.CheckAssert; check <= api.CheckEnsures; check++ {
		l[0].Edges = append(l[0].Edges, api.Edge{}, api.Edge{From: 1, To: 1, Command: api.Command{Op: api.CmdCheck, Check: check}})
	}
	l[2] = api.Graph{Points: 1}
	l[3] = api.Graph{Points: 1, Edges: []api.Edge{{Command: api.Command{Op: api.CmdCheck, Check: api.CheckEnsures}}}}
	spots, e = Spots(p, l)
	want(t, "Spots", spots, []api.Spot{{Proc: 0, Edge: 1}, {Proc: 0, Edge: 3}, {Proc: 0, Edge: 5}, {Proc: 0, Edge: 7}, {Proc: 0, Edge: 9}, {Proc: 3, Edge: 0}}, e, api.OK)
	spots, e = Spots(api.Program{}, nil)
	want(t, "Spots", spots, []api.Spot(nil), e, api.OK)
}

func TestP15_1Regular(t *testing.T) {
	p := read(t, "proc main(x) { } proc f(x, y) { }")
	one := compared(api.CondEq, variable(0), num("1"))
	not, less, atLeast := compared(api.CondNe, variable(0), num("1")), compared(api.CondLt, variable(0), num("1")), compared(api.CondLe, num("1"), variable(0))
	assume := func(c api.Cond) api.Command { return api.Command{Op: api.CmdAssume, Cond: c} }
	check := func(c api.Cond) api.Command { return api.Command{Op: api.CmdCheck, Check: 1, Cond: c} }
	negation := func(c api.Cond) api.Cond { return api.Cond{Op: api.CondNot, Args: []api.Cond{c}} }
	both := api.Cond{Op: api.CondAnd, Args: []api.Cond{one, less}}
	for i, c := range []struct {
		commands  []api.Command
		isRegular bool
	}{
		{nil, true}, {[]api.Command{{}}, true}, {[]api.Command{assume(one)}, true}, {[]api.Command{check(one)}, true},
		{[]api.Command{{}, {}}, false}, {[]api.Command{assume(one), assume(not)}, true}, {[]api.Command{assume(not), assume(one)}, true}, {[]api.Command{assume(less), assume(atLeast)}, true}, {[]api.Command{assume(atLeast), assume(less)}, true}, {[]api.Command{assume(api.Cond{}), assume(api.Cond{Op: api.CondFalse})}, true}, {[]api.Command{{Op: api.CmdAssume, At: 3, Cond: one}, {Op: api.CmdAssume, At: 4, Cond: not}}, true},
		// The negation has to be the one of the negation normal form, and the second one.
		{[]api.Command{assume(one), assume(negation(one))}, false}, {[]api.Command{assume(negation(one)), assume(one)}, true}, {[]api.Command{assume(negation(not)), assume(one)}, false}, {[]api.Command{assume(negation(not)), assume(not)}, true}, {[]api.Command{assume(negation(negation(one))), assume(not)}, true}, {[]api.Command{assume(not), assume(negation(negation(one)))}, false}, {[]api.Command{assume(both), assume(api.Cond{Op: api.CondOr, Args: []api.Cond{not, atLeast}})}, true}, {[]api.Command{assume(both), assume(api.Cond{Op: api.CondOr, Args: []api.Cond{atLeast, not}})}, false},
		{[]api.Command{assume(one), assume(one)}, false}, {[]api.Command{assume(less), assume(not)}, false}, {[]api.Command{assume(api.Cond{}), assume(api.Cond{})}, false},
		{[]api.Command{check(one), assume(not)}, false}, {[]api.Command{assume(one), check(not)}, false}, {[]api.Command{check(one), check(not)}, false}, {[]api.Command{{}, assume(api.Cond{Op: api.CondFalse})}, false}, {[]api.Command{assume(api.Cond{Op: api.CondFalse}), {}}, false},
		{[]api.Command{assume(one), assume(not), {}}, false}, {[]api.Command{assume(one), assume(not), assume(one)}, false},
	} {
		for _, from := range []int{0, 1, 2} {
			g := api.Graph{Points: 3, Exit: 2}
			for j, command := range c.commands {
				g.Edges = append(g.Edges, api.Edge{From: from, To: j % 3, Command: command})
			}
			// Edges of other points, and to this one, do not matter.
			for other := range 3 {
				if other != from {
					g.Edges = append([]api.Edge{{From: other, To: from, Command: assume(one)}}, append(g.Edges, api.Edge{From: other, To: from, Command: assume(not)})...)
				}
			}
			for _, l := range [][]api.Graph{{g, {Points: 1}}, {{Points: 1}, g}} {
				isRegular, e := Regular(p, l)
				want(t, fmt.Sprint("Regular ", i, " ", from), isRegular, c.isRegular, e, api.OK)
			}
		}
	}
	isRegular, e := Regular(api.Program{}, nil)
	want(t, "Regular", isRegular, true, e, api.OK)
}
