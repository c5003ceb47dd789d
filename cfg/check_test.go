package cfg

import (
	"fmt"
	"math/rand"
	"reflect"
	"slices"
	"strings"
	"testing"

	"surveyor/api"
)

// base has a procedure with all kinds of commands, as the second of three.
const base = "proc main() { } proc f(a, b) returns (c, d) { var r, i; array s[4]; array t[32]; c := a; d := input; r := s[a]; t[b] := c; assume d = 2; assert c = 1; r, i := f(a + 1, b); while i < 3 { } } import proc g(x) returns (y);"

// places are the edges of f with each kind of command.
var places = map[int]int{api.CmdAssign: 0, api.CmdInput: 1, api.CmdLoad: 3, api.CmdStore: 5, api.CmdAssume: 6, api.CmdCheck: 7, api.CmdCall: 8, api.CmdSkip: 9}

// edit changes a program, or its graphs.
type edit struct {
	what string
	make func(p *api.Program, l *[]api.Graph)
	e    api.Errno
}

// edited returns the base and its graphs with changes.
func edited(t *testing.T, list ...edit) (api.Program, []api.Graph) {
	t.Helper()
	p := read(t, base)
	l := built(t, p)
	for _, c := range list {
		c.make(&p, &l)
	}
	return p, l
}

// graphEdit changes the graph of f.
func graphEdit(what string, change func(g *api.Graph), e api.Errno) edit {
	return edit{what, func(_ *api.Program, l *[]api.Graph) {
		if len(*l) > 1 {
			change(&(*l)[1])
		}
	}, e}
}

// commandEdit changes the command of f with an operation.
func commandEdit(op int, what string, change func(c *api.Command), e api.Errno) edit {
	return graphEdit(fmt.Sprint("command ", op, ": ", what), func(g *api.Graph) { change(&g.Edges[places[op]].Command) }, e)
}

// graphEdits are changes of a program and of graphs as a whole, each with its error, in the order of the errors.
func graphEdits() []edit {
	list := []edit{
		{"a program without a name", func(p *api.Program, _ *[]api.Graph) { p.Procs[2].Name = "" }, api.ErrName},
		{"a wrong statement", func(p *api.Program, _ *[]api.Graph) { p.Procs[1].Body[1].Var = 9 }, api.ErrNone},
		{"no graphs", func(_ *api.Program, l *[]api.Graph) { *l = nil }, api.ErrShape},
		{"two graphs", func(_ *api.Program, l *[]api.Graph) { *l = (*l)[:min(2, len(*l))] }, api.ErrShape},
		{"four graphs", func(_ *api.Program, l *[]api.Graph) { *l = append(*l, api.Graph{Points: 1}) }, api.ErrShape},
	}
	for _, points := range []int{0, -1, 513, 1 << 40, -1 << 63} {
		list = append(list, graphEdit(fmt.Sprint(points, " points"), func(g *api.Graph) { g.Points = points }, api.ErrRange))
	}
	for _, exit := range []int{-1, 13, 1 << 40, -1 << 63} {
		list = append(list, graphEdit(fmt.Sprint("exit ", exit), func(g *api.Graph) { g.Exit = exit }, api.ErrNone))
	}
	list = append(list, graphEdit("1025 edges", func(g *api.Graph) { g.Edges = slices.Repeat(g.Edges[:1], 1025) }, api.ErrMany),
		graphEdit("1025 wrong edges", func(g *api.Graph) { g.Edges = slices.Repeat([]api.Edge{{From: -1}}, 1025) }, api.ErrMany),
		edit{"an edge of an import", func(_ *api.Program, l *[]api.Graph) {
			if len(*l) > 2 {
				(*l)[2] = api.Graph{Points: 2, Exit: 1, Edges: []api.Edge{{From: 5}}}
			}
		}, api.ErrForm})
	for i, ends := range [][2]int{{-1, 0}, {0, -1}, {13, 0}, {0, 13}, {1 << 40, 0}, {0, -1 << 63}, {512, 512}} {
		list = append(list, graphEdit(fmt.Sprint("ends ", i), func(g *api.Graph) {
			g.Edges[0].From, g.Edges[0].To = ends[0], ends[1]
			g.Edges[0].Command.Op = -1
		}, api.ErrNone))
	}
	return append(list, graphEdit("ends of the last edge", func(g *api.Graph) { g.Edges[len(g.Edges)-1].To = 13 }, api.ErrNone))
}

// commandEdits are changes of one command after the other, each with its error, in the order of the errors.
func commandEdits() []edit {
	var list []edit
	for op := range 8 {
		add := func(what string, e api.Errno, change func(c *api.Command)) {
			list = append(list, commandEdit(op, what, change, e))
		}
		for _, wrong := range []int{-1, 8, 1 << 40, -1 << 63} {
			add("Op", api.ErrArg, func(c *api.Command) { c.Op = wrong })
		}
		for _, at := range []int{-1, 65537, -1 << 63} {
			add("At", api.ErrRange, func(c *api.Command) { c.At = at })
		}
		if op == api.CmdCheck {
			for _, check := range []int{0, -1, 6, 1 << 40, -1 << 63} {
				add("Check", api.ErrArg, func(c *api.Command) { c.Check = check })
			}
		}
		list = append(list, unusedEdits(op)...)
		list = append(list, fieldEdits(op)...)
	}
	return list
}

// unusedEdits fill the fields of a command that its operation does not use.
func unusedEdits(op int) []edit {
	var list []edit
	for _, c := range []struct {
		letter string
		change func(c *api.Command)
	}{
		{"K", func(c *api.Command) { c.Check = 1 }}, {"K", func(c *api.Command) { c.Check = -1 }}, {"K", func(c *api.Command) { c.Check = 6 }},
		{"V", func(c *api.Command) { c.Var = 4 }}, {"V", func(c *api.Command) { c.Var = -1 }}, {"A", func(c *api.Command) { c.Array = 1 }}, {"A", func(c *api.Command) { c.Array = -1 }}, {"P", func(c *api.Command) { c.Proc = 1 }}, {"P", func(c *api.Command) { c.Proc = -1 }},
		{"I", func(c *api.Command) { c.Index = num("0") }}, {"I", func(c *api.Command) { c.Index = api.Expr{Op: api.ExprVar} }}, {"I", func(c *api.Command) { c.Index = api.Expr{Args: make([]api.Expr, 1)} }}, {"E", func(c *api.Command) { c.Expr = num("1") }}, {"E", func(c *api.Command) { c.Expr = api.Expr{Var: 1} }}, {"E", func(c *api.Command) { c.Expr = node(-1) }},
		{"C", func(c *api.Command) { c.Cond = api.Cond{Op: api.CondFalse} }}, {"C", func(c *api.Command) { c.Cond = api.Cond{Exprs: make([]api.Expr, 1)} }}, {"C", func(c *api.Command) { c.Cond = api.Cond{Args: make([]api.Cond, 1)} }}, {"G", func(c *api.Command) { c.Args = []api.Expr{num("1")} }}, {"G", func(c *api.Command) { c.Args = make([]api.Expr, 1) }}, {"R", func(c *api.Command) { c.Results = []int{0} }},
	} {
		if !strings.Contains(fields[op], c.letter) {
			list = append(list, commandEdit(op, "unused "+c.letter, c.change, api.ErrForm))
		}
	}
	return list
}

// fieldEdits are wrong values of the fields that an operation uses.
func fieldEdits(op int) []edit {
	var list []edit
	add := func(what string, e api.Errno, change func(c *api.Command)) {
		list = append(list, commandEdit(op, what, change, e))
	}
	args := func(e api.Errno, l ...api.Expr) { add("Args", e, func(c *api.Command) { c.Args = l }) }
	results := func(e api.Errno, l ...int) { add("Results", e, func(c *api.Command) { c.Results = l }) }
	exprs := []struct {
		x api.Expr
		e api.Errno
	}{{api.Expr{}, api.ErrForm}, {num(huge), api.ErrLarge}, {variable(6), api.ErrNone}, {variable(-1), api.ErrNone}, {node(-1), api.ErrArg}, {node(api.ExprAdd, num("1")), api.ErrShape}}
	for _, letter := range fields[op] {
		switch letter {
		case 'V':
			for v, e := range map[int]api.Errno{-1: api.ErrNone, 6: api.ErrNone, 1 << 40: api.ErrNone, -1 << 63: api.ErrNone, 0: api.ErrUse, 1: api.ErrUse} {
				add(fmt.Sprint("Var ", v), e, func(c *api.Command) { c.Var = v })
			}
		case 'A':
			for _, a := range []int{-1, 2, 1 << 40} {
				add("Array", api.ErrNone, func(c *api.Command) { c.Array = a })
			}
		case 'I':
			for _, x := range exprs {
				add("Index", x.e, func(c *api.Command) { c.Index = x.x })
			}
		case 'E':
			for _, x := range exprs {
				add("Expr", x.e, func(c *api.Command) { c.Expr = x.x })
			}
		case 'C':
			add("Cond", api.ErrArg, func(c *api.Command) { c.Cond = api.Cond{Op: 9} })
			add("Cond", api.ErrShape, func(c *api.Command) { c.Cond = api.Cond{Op: api.CondOr} })
			add("Cond", api.ErrNone, func(c *api.Command) { c.Cond = compared(api.CondLt, num("1"), variable(6)) })
		case 'P':
			for _, i := range []int{-1, 3, 1 << 40} {
				add("Proc", api.ErrNone, func(c *api.Command) { c.Proc = i })
			}
		case 'G':
			args(api.ErrShape)
			args(api.ErrShape, num("1"))
			args(api.ErrShape, num("1"), num("1"), num("1"))
			args(api.ErrForm, api.Expr{}, variable(6))
			args(api.ErrNone, variable(6), api.Expr{})
			args(api.ErrLarge, num("1"), num(huge))
		case 'R':
			results(api.ErrShape)
			results(api.ErrShape, 4)
			results(api.ErrShape, 4, 5, 2)
			results(api.ErrNone, 4, 6)
			results(api.ErrNone, -1, 0)
			results(api.ErrUse, 4, 1)
			results(api.ErrUse, 0, 0)
			results(api.ErrNone, 6, 6)
			results(api.ErrTwice, 4, 4)
		}
	}
	return list
}

func TestP15_1Check(t *testing.T) {
	p, l := edited(t)
	want(t, "Check", Check(p, l), api.OK, 0, 0)
	for op, i := range places {
		want(t, "the place of a command", l[1].Edges[i].Command.Op, op, 0, 0)
	}
	for _, c := range append(graphEdits(), commandEdits()...) {
		p, l := edited(t, c)
		want(t, c.what, Check(p, l), c.e, referenceCheck(p, l), c.e)
	}
}

// TestP15_1Order has graphs with two errors. Some changes undo others, so that the reference says which error is left.
func TestP15_1Order(t *testing.T) {
	all := append(graphEdits(), commandEdits()...)
	first := 0
	p := read(t, base)
	l := built(t, p)
	for i, a := range all {
		for j, b := range all {
			if (i+j)%3 != 0 {
				continue
			}
			q, m := api.Program{Procs: slices.Clone(p.Procs)}, copied(l)
			q.Procs[1].Body = slices.Clone(q.Procs[1].Body)
			a.make(&q, &m)
			b.make(&q, &m)
			e := referenceCheck(q, m)
			if got := Check(q, m); got != e {
				t.Errorf("%s and %s: got %d, want %d", a.what, b.what, got, e)
			}
			if i < j && e == a.e {
				first++
			}
		}
	}
	if first < len(all)*len(all)/8 {
		t.Errorf("only for %d pairs of %d changes the first error counts", first, len(all))
	}
}

// TestP15_1Limits has graphs at the limits, and graphs that are not built of any program.
func TestP15_1Limits(t *testing.T) {
	p := read(t, "proc main(n) { var i; } import proc g(x);")
	edges := func(n, from, to int) []api.Edge { return slices.Repeat([]api.Edge{{From: from, To: to}}, n) }
	at := func(at int) []api.Edge { return []api.Edge{{Command: api.Command{At: at}}} }
	for i, c := range []struct {
		main, g api.Graph
		e       api.Errno
	}{
		{api.Graph{Points: 1}, api.Graph{Points: 1}, api.OK}, {api.Graph{Points: 512, Exit: 511}, api.Graph{Points: 512, Exit: 511}, api.OK}, {api.Graph{Points: 512, Exit: 512}, api.Graph{Points: 1}, api.ErrNone}, {api.Graph{Points: 513, Exit: 513}, api.Graph{Points: 1}, api.ErrRange}, {api.Graph{Points: 1}, api.Graph{}, api.ErrRange}, {api.Graph{}, api.Graph{Points: 1, Exit: 1}, api.ErrRange}, {api.Graph{Points: 1, Exit: 1}, api.Graph{}, api.ErrNone},
		{api.Graph{Points: 2, Edges: edges(1024, 0, 1)}, api.Graph{Points: 1}, api.OK}, {api.Graph{Points: 2, Edges: edges(1025, 0, 1)}, api.Graph{Points: 1}, api.ErrMany}, {api.Graph{Points: 2, Edges: edges(1024, 0, 2)}, api.Graph{Points: 1}, api.ErrNone}, {api.Graph{Points: 2, Exit: 2, Edges: edges(1025, 0, 1)}, api.Graph{Points: 1}, api.ErrNone},
		{api.Graph{Points: 1}, api.Graph{Points: 3, Exit: 2}, api.OK}, {api.Graph{Points: 1}, api.Graph{Points: 2, Edges: edges(1, 0, 1)}, api.ErrForm}, {api.Graph{Points: 1}, api.Graph{Points: 2, Edges: edges(1, 0, 7)}, api.ErrForm}, {api.Graph{Points: 1}, api.Graph{Points: 2, Edges: edges(1025, 0, 1)}, api.ErrMany}, {api.Graph{Points: 1}, api.Graph{Points: 2, Exit: -1, Edges: edges(1, 0, 1)}, api.ErrNone}, {api.Graph{Points: 1}, api.Graph{Points: 2, Edges: []api.Edge{}}, api.OK},
		{api.Graph{Points: 1, Edges: at(0)}, api.Graph{Points: 1}, api.OK}, {api.Graph{Points: 1, Edges: at(65536)}, api.Graph{Points: 1}, api.OK}, {api.Graph{Points: 1, Edges: at(65537)}, api.Graph{Points: 1}, api.ErrRange},
		{api.Graph{Points: 1, Edges: []api.Edge{{Command: api.Command{Args: []api.Expr{}, Results: []int{}, Index: api.Expr{Args: []api.Expr{}}, Cond: api.Cond{Args: []api.Cond{}, Exprs: []api.Expr{}}}}}}, api.Graph{Points: 1}, api.OK},
	} {
		l := []api.Graph{c.main, c.g}
		want(t, fmt.Sprint("Check ", i), Check(p, l), c.e, referenceCheck(p, l), c.e)
	}
	for check, e := range map[int]api.Errno{0: api.ErrArg, 1: api.OK, 2: api.OK, 3: api.OK, 4: api.OK, 5: api.OK, 6: api.ErrArg} {
		l := []api.Graph{{Points: 1, Edges: []api.Edge{{Command: api.Command{Op: api.CmdCheck, Check: check}}}}, {Points: 1}}
		want(t, fmt.Sprint("Check with ", check), Check(p, l), e, 0, 0)
	}
	want(t, "no procedures", Check(api.Program{}, nil), api.OK, 0, 0)
	want(t, "no procedures", Check(api.Program{}, []api.Graph{}), api.OK, 0, 0)
	want(t, "no procedures", Check(api.Program{}, make([]api.Graph, 1)), api.ErrShape, 0, 0)
	want(t, "13 procedures", Check(api.Program{Procs: make([]api.Proc, 13)}, nil), api.ErrMany, 0, 0)
}

// functions are those that return the error of Check first.
var functions = []struct {
	name string
	call func(p api.Program, l []api.Graph) (any, any, api.Errno) // the result, and the zero value
}{
	{"Spots", func(p api.Program, l []api.Graph) (any, any, api.Errno) {
		v, e := Spots(p, l)
		return v, []api.Spot(nil), e
	}},
	{"Regular", func(p api.Program, l []api.Graph) (any, any, api.Errno) { v, e := Regular(p, l); return v, false, e }},
}

func TestFirstErrors(t *testing.T) {
	for _, c := range append(graphEdits(), commandEdits()...) {
		p, l := edited(t, c)
		for _, f := range functions {
			got, wanted, e := f.call(p, l)
			want(t, f.name+" with "+c.what, got, wanted, e, c.e)
		}
	}
}

func TestP15_1Random(t *testing.T) {
	r := rand.New(rand.NewSource(1))
	counts := map[api.Errno]int{}
	for range 6000 {
		p := random(r)
		l := built(t, p)
		m := copied(l)
		if Check(p, l) != api.OK || !Same(l, m) {
			t.Errorf("Check of %+v: %d, Same: %t", l, Check(p, l), Same(l, m))
		}
		for range 1 + r.Intn(3) {
			mutate(r, m)
		}
		e := referenceCheck(p, m)
		counts[e]++
		if got := Check(p, m); got != e {
			t.Errorf("Check of %+v and %+v: got %d, want %d", p, m, got, e)
		}
		m = copied(m) // so that lists without elements are nil
		isEqual := reflect.DeepEqual(copied(l), m)
		if Same(l, m) != isEqual || Same(m, l) != isEqual {
			t.Errorf("Same of %+v and %+v: want %t", l, m, isEqual)
		}
	}
	for _, e := range []api.Errno{api.OK, api.ErrArg, api.ErrRange, api.ErrForm, api.ErrMany, api.ErrNone, api.ErrTwice, api.ErrLarge, api.ErrUse, api.ErrShape} {
		if counts[e] < 30 {
			t.Errorf("only %d graphs have the error %d", counts[e], e)
		}
	}
}

func TestP15_1Same(t *testing.T) {
	var all [][]api.Graph
	for _, c := range append(graphEdits(), commandEdits()...) {
		_, l := edited(t, c)
		all = append(all, l)
	}
	_, l := edited(t)
	all = append(all, l, nil, make([]api.Graph, 1), make([]api.Graph, 2), []api.Graph{{Exit: 1}}, []api.Graph{{Edges: make([]api.Edge, 1)}}, []api.Graph{{Edges: []api.Edge{{From: 1}}}}, []api.Graph{{Edges: []api.Edge{{To: 1}}}})
	var texts []string
	for _, l := range all {
		texts = append(texts, fmt.Sprintf("%+v", l))
	}
	for i, a := range all {
		for j, b := range all {
			if isEqual := texts[i] == texts[j]; Same(a, b) != isEqual {
				t.Errorf("Same %d %d: want %t", i, j, isEqual)
			}
		}
	}
	empty := []api.Graph{{Edges: []api.Edge{{Command: api.Command{Args: []api.Expr{}, Results: []int{}}}}}, {Edges: []api.Edge{}}}
	want(t, "Same", Same(empty, []api.Graph{{Edges: make([]api.Edge, 1)}, {}}), true, 0, 0)
	want(t, "Same", Same(nil, []api.Graph{}), true, 0, 0)
}

// TestSizes has arguments of sizes that only Check and Same take (P1).
func TestSizes(t *testing.T) {
	const size = 300000
	deep := num("1")
	for range size {
		deep = node(api.ExprNeg, deep)
	}
	endless := []api.Expr{{Op: api.ExprNeg}}
	endless[0].Args = endless
	for i, c := range []struct {
		command api.Command
		e       api.Errno
	}{
		{api.Command{Op: api.CmdAssign, Var: 1, Expr: deep}, api.ErrMany}, {api.Command{Op: api.CmdAssign, Var: 1, Expr: endless[0]}, api.ErrMany}, {api.Command{Expr: endless[0]}, api.ErrForm}, {api.Command{Op: api.CmdInput, Var: 1, Index: deep}, api.ErrForm}, {api.Command{Op: api.CmdAssume, Cond: compared(api.CondLt, num("1"), endless[0])}, api.ErrMany}, {api.Command{Op: api.CmdCall, Args: make([]api.Expr, size)}, api.ErrShape}, {api.Command{Op: api.CmdCall, Results: make([]int, size)}, api.ErrShape}, {api.Command{Args: make([]api.Expr, size)}, api.ErrForm},
	} {
		p := read(t, "proc main() { } proc f(a) { var x; }")
		l := []api.Graph{{Points: 1}, {Points: 1, Edges: []api.Edge{{Command: c.command}}}}
		want(t, fmt.Sprint("Check ", i), Check(p, l), c.e, 0, 0)
		text, e := Format(p, 1, c.command)
		want(t, fmt.Sprint("Format ", i), text, "", e, c.e)
		for _, f := range functions {
			got, wanted, e := f.call(p, l)
			want(t, f.name, got, wanted, e, c.e)
		}
		if i == 0 || i > 4 {
			want(t, fmt.Sprint("Same ", i), Same(l, copied(l)), true, 0, 0)
		}
	}
	l := make([]api.Graph, size)
	want(t, "Same", Same(l, l), true, 0, 0)
	want(t, "Check", Check(api.Program{}, l), api.ErrShape, 0, 0)
}
