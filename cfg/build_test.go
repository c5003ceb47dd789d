package cfg

import (
	"fmt"
	"math/rand"
	"slices"
	"strings"
	"testing"

	"surveyor/api"
	"surveyor/graph"
)

// wantDrawn checks the text of the graph of the procedure main.
func wantDrawn(t *testing.T, src, wanted string) {
	t.Helper()
	p := read(t, src)
	l, e := Build(p)
	if e != api.OK || len(l) != len(p.Procs) {
		t.Errorf("Build of %s: %d graphs, %d", src, len(l), e)
		return
	}
	for i, q := range p.Procs {
		if q.Name == "main" {
			want(t, src, drawn(t, p, i, l[i]), wanted, 0, 0)
		}
	}
	reference, _ := referenceBuild(p)
	want(t, src, l, reference, 0, 0)
}

func TestP15_2Examples(t *testing.T) {
	wantDrawn(t, "proc main(y) { var x; while x < 3 { x := x + 1 / y; } }", "6 5; 0-1 skip; 1-2 assume x < 3; 2-3 divide y != 0; 3-4 x := x + 1 / y; 4-1 skip; 1-5 assume 3 <= x")
	wantDrawn(t, "proc main(x, y) { if x = 0 { } else { assert y = 1; } }", "5 4; 0-1 assume x = 0; 0-2 assume x != 0; 2-3 assert y = 1; 1-4 skip; 3-4 skip")
	wantDrawn(t, "proc main(y) { var x; array a[4]; x := a[y]; }", "3 2; 0-1 index 0 <= y and y < 4; 1-2 x := a[y]")
}

func TestP15_2Statements(t *testing.T) {
	for _, c := range []struct{ body, graph string }{
		{"", "1 0"}, {"x := 1;", "2 1; 0-1 x := 1"}, {"x := input;", "2 1; 0-1 x := input"}, {"assume x = y;", "2 1; 0-1 assume x = y"}, {"assert x = y;", "2 1; 0-1 assert x = y"}, {"f();", "2 1; 0-1 f()"}, {"x, y := g(x, y + 1);", "2 1; 0-1 x, y := g(x, y + 1)"}, {"a[x] := y;", "3 2; 0-1 index 0 <= x and x < 4; 1-2 a[x] := y"}, {"y := b[3];", "3 2; 0-1 index 0 <= 3 and 3 < 32; 1-2 y := b[3]"}, {"x := n; x := 2;", "3 2; 0-1 x := n; 1-2 x := 2"},
		// Divisors come in postorder, those of Index before those of Expr, and all of them before the index; numbers other than 0 are none (-1 is no number in a text).
		{"x := n / (x % y) + x / 2 % -1;", "5 4; 0-1 divide y != 0; 1-2 divide x % y != 0; 2-3 divide -1 != 0; 3-4 x := n / (x % y) + x / 2 % -1"}, {"x := 1 / 0;", "3 2; 0-1 divide 0 != 0; 1-2 x := 1 / 0"}, {"x := 1 / (1 + 1);", "3 2; 0-1 divide 1 + 1 != 0; 1-2 x := 1 / (1 + 1)"}, {"x := n / x + n / x;", "4 3; 0-1 divide x != 0; 1-2 divide x != 0; 2-3 x := n / x + n / x"},
		{"a[n / x] := n % y;", "5 4; 0-1 divide x != 0; 1-2 divide y != 0; 2-3 index 0 <= n / x and n / x < 4; 3-4 a[n / x] := n % y"}, {"x := b[n / x];", "4 3; 0-1 divide x != 0; 1-2 index 0 <= n / x and n / x < 32; 2-3 x := b[n / x]"}, {"assert n / x = n % y or 1 / n < 2;", "5 4; 0-1 divide x != 0; 1-2 divide y != 0; 2-3 divide n != 0; 3-4 assert n / x = n % y or 1 / n < 2"}, {"assume not n / x = 1;", "3 2; 0-1 divide x != 0; 1-2 assume not n / x = 1"}, {"x, y := g(n / x, n / y);", "4 3; 0-1 divide x != 0; 1-2 divide y != 0; 2-3 x, y := g(n / x, n / y)"},
		// Points of a branch come before those of the other one; the point behind both comes last.
		{"if n = 1 { } else { }", "4 3; 0-1 assume n = 1; 0-2 assume n != 1; 1-3 skip; 2-3 skip"}, {"if n = 1 { x := 1; x := 2; } else { x := 3; }", "7 6; 0-1 assume n = 1; 1-2 x := 1; 2-3 x := 2; 0-4 assume n != 1; 4-5 x := 3; 3-6 skip; 5-6 skip"}, {"if n / x < 2 { x := 1; } y := 3;", "7 6; 0-1 divide x != 0; 1-2 assume n / x < 2; 2-3 x := 1; 1-4 assume 2 <= n / x; 3-5 skip; 4-5 skip; 5-6 y := 3"},
		{"if n = 1 { if n = 2 { } } else { }", "7 6; 0-1 assume n = 1; 1-2 assume n = 2; 1-3 assume n != 2; 2-4 skip; 3-4 skip; 0-5 assume n != 1; 4-6 skip; 5-6 skip"},
		{"if not (n = 1 and x < y) { }", "4 3; 0-1 assume not (n = 1 and x < y); 0-2 assume n = 1 and x < y; 1-3 skip; 2-3 skip"}, {"if not not n <= 1 { }", "4 3; 0-1 assume not not n <= 1; 0-2 assume 1 < n; 1-3 skip; 2-3 skip"}, {"if true { } else { }", "4 3; 0-1 assume true; 0-2 assume false; 1-3 skip; 2-3 skip"},
		// The checks of a loop are made at its head, in each round.
		{"while n / x < 2 { x := 1; }", "6 5; 0-1 skip; 1-2 divide x != 0; 2-3 assume n / x < 2; 3-4 x := 1; 4-1 skip; 2-5 assume 2 <= n / x"}, {"while n % x = n / y { }", "6 5; 0-1 skip; 1-2 divide x != 0; 2-3 divide y != 0; 3-4 assume n % x = n / y; 4-1 skip; 3-5 assume n % x != n / y"}, {"while true { } x := 1;", "5 4; 0-1 skip; 1-2 assume true; 2-1 skip; 1-3 assume false; 3-4 x := 1"}, {"while x < 1 { while y < 2 { } }", "7 6; 0-1 skip; 1-2 assume x < 1; 2-3 skip; 3-4 assume y < 2; 4-3 skip; 3-5 assume 2 <= y; 5-1 skip; 1-6 assume 1 <= x"},
		{"while x < 1 { if y = 0 { x := 1; } }", "8 7; 0-1 skip; 1-2 assume x < 1; 2-3 assume y = 0; 3-4 x := 1; 2-5 assume y != 0; 4-6 skip; 5-6 skip; 6-1 skip; 1-7 assume 1 <= x"},
	} {
		wantDrawn(t, "proc f() { } proc main(n) { var x, y; array a[4]; array b[32]; "+c.body+" } proc g(a, b) returns (c, d) { }", c.graph)
	}
	// An imported procedure has one point, and each procedure has its own points.
	p := read(t, "proc a() { b(); } import proc b(); proc c(x) returns (y) requires x / x = 1 ensures y = 1 / x { y := x; y := x; }")
	var texts []string
	for i, g := range built(t, p) {
		texts = append(texts, drawn(t, p, i, g))
	}
	want(t, "the graphs", texts, []string{"2 1; 0-1 b()", "1 0", "3 2; 0-1 y := x; 1-2 y := x"}, 0, 0)
	l, e := Build(api.Program{})
	want(t, "Build", l, []api.Graph(nil), e, api.OK)
}

// TestP15_2Places has the offsets of statements, which all of their commands have.
func TestP15_2Places(t *testing.T) {
	src := "proc main(n) { var x; array a[4]; @if n / n = 1 { @a[n] := 1; } @while n = 2 { @x := n / x; } @assert x = 1; @assume n < 3; }"
	var offsets []int
	for i := range len(src) {
		if src[i] == '@' {
			offsets = append(offsets, i-len(offsets))
		}
	}
	g := built(t, read(t, strings.ReplaceAll(src, "@", "")))[0]
	var got, wanted []int
	for _, edge := range g.Edges {
		got = append(got, edge.Command.At)
	}
	// The statement of each edge: two edges before the branch, two in it, and three behind it; and so on.
	for _, i := range []int{0, 0, 1, 1, 0, 0, 0, 2, 2, 3, 3, 2, 2, 4, 5} {
		wanted = append(wanted, offsets[i])
	}
	want(t, "the offsets", got, wanted, 0, 0)
}

// wide returns a body whose graph has a number of points: of statements with five points each, and an ending that has some.
func wide(points int, ending string, ends int) string {
	fives := (points - 1 - ends) / 5
	return strings.Repeat("x := 1 / x + 1 / x + 1 / x + 1 / x;", fives) + strings.Repeat("x := 1;", points-1-ends-5*fives) + ending
}

func TestP15_2Limits(t *testing.T) {
	for i, c := range []struct {
		ending string
		ends   int
	}{{"", 0}, {"x := 1;", 1}, {"x := 1 / x;", 2}, {"if x = 1 { }", 3}, {"while x = 1 { }", 3}, {"x := a[x];", 2}, {"while x = 1 { if x = 2 { x := 3; } }", 7}, {"if x = 1 { x := 1; } else { while x = 1 / x { } }", 8}} {
		for points, wanted := range map[int]api.Errno{500: api.OK, 510: api.OK, 511: api.OK, 512: api.OK, 513: api.ErrMany, 514: api.ErrMany, 515: api.ErrMany, 516: api.ErrMany} {
			p := read(t, "proc f() { } proc main() { var x; array a[4]; "+wide(points, c.ending, c.ends)+" }")
			l, e := Build(p)
			if want(t, fmt.Sprint("Build ", i, " with ", points), 0, 0, e, wanted); e == api.OK {
				want(t, "the points", l[1].Points, points, Check(p, l), api.OK)
			} else {
				want(t, "the graphs", l, []api.Graph(nil), 0, 0)
			}
		}
	}
}

// balanced returns an expression with a number of nodes that is no deeper than it has to be.
func balanced(nodes int) api.Expr {
	if nodes == 1 {
		return variable(0)
	}
	if nodes%2 == 0 {
		return node(api.ExprNeg, balanced(nodes-1))
	}
	half := (nodes - 1) / 2
	half -= 1 - half%2
	return node(api.ExprAdd, balanced(half), balanced(nodes-1-half))
}

// TestP15_2Large has expressions from which large conditions are made.
func TestP15_2Large(t *testing.T) {
	load := func(index api.Expr) api.Stmt { return api.Stmt{Op: api.StmtLoad, Index: index} }
	store := func(index api.Expr) api.Stmt { return api.Stmt{Op: api.StmtStore, Index: index, Expr: num("1")} }
	branch := func(s api.Stmt) api.Stmt { return api.Stmt{Op: api.StmtIf, Else: []api.Stmt{s}} }
	loop := func(s api.Stmt) api.Stmt {
		return api.Stmt{Op: api.StmtWhile, Body: []api.Stmt{{Op: api.StmtAssert}, s}}
	}
	divide := func(by api.Expr) api.Stmt { return api.Stmt{Expr: node(api.ExprDiv, num("1"), by)} }
	assert := api.Stmt{Op: api.StmtAssert}
	for i, c := range []struct {
		body []api.Stmt
		e    api.Errno
	}{
		// The condition of an index has five nodes, and twice those of the index.
		{[]api.Stmt{load(balanced(29))}, api.OK}, {[]api.Stmt{load(balanced(30))}, api.ErrMany}, {[]api.Stmt{load(balanced(63))}, api.ErrMany}, {[]api.Stmt{store(balanced(29))}, api.OK}, {[]api.Stmt{store(balanced(30))}, api.ErrMany}, {[]api.Stmt{store(balanced(64))}, api.ErrMany}, {[]api.Stmt{branch(load(balanced(29)))}, api.OK}, {[]api.Stmt{assert, branch(load(balanced(30))), assert}, api.ErrMany}, {[]api.Stmt{loop(store(balanced(31))), assert}, api.ErrMany}, {[]api.Stmt{{Expr: balanced(64)}, load(num("1")), load(balanced(1))}, api.OK},
		// A divisor has at most two nodes less than an expression may have, and the condition two more.
		{[]api.Stmt{divide(balanced(62))}, api.OK}, {[]api.Stmt{load(node(api.ExprDiv, num("1"), balanced(27)))}, api.OK}, {[]api.Stmt{load(node(api.ExprMod, num("1"), balanced(28)))}, api.ErrMany}, {[]api.Stmt{{Op: api.StmtAssume, Cond: compared(api.CondEq, num("1"), node(api.ExprMod, num("1"), balanced(60)))}}, api.OK},
	} {
		p := api.Program{Procs: []api.Proc{{Name: "main", Vars: []string{"x"}, Arrays: []api.Array{{Name: "a", Len: 32}}, Body: c.body}}}
		l, e := Build(p)
		reference, _ := referenceBuild(p)
		want(t, fmt.Sprint("Build ", i), l, reference, e, c.e)
		// Wherever the procedure is, there are no graphs of the others.
		p.Procs = []api.Proc{{Name: "f"}, p.Procs[0], {Name: "g"}}
		l, e = Build(p)
		want(t, fmt.Sprint("Build ", i), len(l) == 3, c.e == api.OK, e, c.e)
	}
	// Depths: an expression at its limit as an index, and as a divisor.
	deep := variable(0)
	for range 14 {
		deep = node(api.ExprNeg, deep)
	}
	p := api.Program{Procs: []api.Proc{{Name: "main", Vars: []string{"x"}, Arrays: []api.Array{{Name: "a", Len: 1}}, Body: []api.Stmt{load(node(api.ExprNeg, deep)), divide(deep)}}}}
	l, e := Build(p)
	reference, _ := referenceBuild(p)
	want(t, "deep expressions", l, reference, e, api.OK)
	// As many divisors as a procedure can have.
	quotients := variable(0)
	for range 5 {
		quotients = node(api.ExprDiv, quotients, quotients)
	}
	call := api.Stmt{Op: api.StmtCall, Args: slices.Repeat([]api.Expr{quotients}, 12)}
	p = api.Program{Procs: []api.Proc{{Name: "main", Params: 12, Vars: strings.Fields("a b c d e f g h i j k l"), Body: slices.Repeat([]api.Stmt{call}, 128)}}}
	l, e = Build(p)
	want(t, "many divisors", l, []api.Graph(nil), e, api.ErrMany)
}

// TestP15_2Errors has programs that are not well-formed.
func TestP15_2Errors(t *testing.T) {
	for _, c := range graphEdits()[:2] {
		p, _ := edited(t, c)
		l, e := Build(p)
		want(t, "Build with "+c.what, l, []api.Graph(nil), e, c.e)
	}
	l, e := Build(api.Program{Procs: make([]api.Proc, 13)})
	want(t, "Build", l, []api.Graph(nil), e, api.ErrMany)
	// The errors of the program count before those of its graphs.
	p := read(t, "proc main() { var x; "+wide(513, "", 0)+" } proc f(x) { }")
	p.Procs[1].Params = 2
	l, e = Build(p)
	want(t, "Build", l, []api.Graph(nil), e, api.ErrShape)
}

func TestP15_2Random(t *testing.T) {
	r := rand.New(rand.NewSource(2))
	for range 4000 {
		p := random(r)
		l, e := Build(p)
		reference, wanted := referenceBuild(p)
		want(t, fmt.Sprintf("Build of %+v", p), l, reference, e, wanted)
	}
}

// TestP15_3Consequences has the graphs of random programs.
func TestP15_3Consequences(t *testing.T) {
	r := rand.New(rand.NewSource(3))
	for range 1500 {
		p := random(r)
		l := built(t, p)
		what := fmt.Sprintf("%+v", p)
		want(t, "Check for "+what, 0, 0, Check(p, l), api.OK)
		isRegular, e := Regular(p, l)
		want(t, "Regular for "+what, isRegular, true, e, api.OK)
		for i, g := range l {
			wantWays(t, what, g)
			wantExtended(t, p, i, r)
		}
		wantAssertions(t, p, l)
	}
}

// wantWays looks for ways from the entry to each point, and on to the exit. Graphs of statements are reducible.
func wantWays(t *testing.T, what string, g api.Graph) {
	t.Helper()
	for p := range g.Points {
		fromEntry, _ := graph.Reachable(g, 0)
		toExit, e := graph.Reachable(g, p)
		want(t, what, fromEntry[p] && toExit[g.Exit], true, e, api.OK)
	}
	isReducible, e := graph.Reducible(g)
	want(t, what, isReducible, true, e, api.OK)
}

// wantExtended adds a statement behind a body.
func wantExtended(t *testing.T, p api.Program, proc int, r *rand.Rand) {
	t.Helper()
	q := api.Program{Procs: slices.Clone(p.Procs)}
	f := &q.Procs[proc]
	if f.Extern {
		return
	}
	g := &generator{Rand: r, procs: p.Procs, proc: *f}
	f.Body = append(slices.Clone(f.Body), g.stmt(2))
	old, extended := built(t, p)[proc], built(t, q)[proc]
	what := fmt.Sprintf("%+v", q)
	want(t, what, extended.Points > old.Points && len(extended.Edges) > len(old.Edges), true, 0, 0)
	want(t, what, extended.Edges[:len(old.Edges)], old.Edges, 0, 0)
	for _, edge := range extended.Edges[len(old.Edges):] {
		want(t, what, edge.To >= old.Points && (edge.From >= old.Points || edge.From == old.Exit), true, 0, 0)
	}
}

// wantAssertions compares the assertions of a program with the checks of its graphs.
func wantAssertions(t *testing.T, p api.Program, l []api.Graph) {
	t.Helper()
	var places, checks [][2]int
	for i, q := range p.Procs {
		for _, s := range statements(q.Body) {
			if s.Op == api.StmtAssert {
				places = append(places, [2]int{i, s.At})
			}
		}
	}
	spots, e := Spots(p, l)
	for _, s := range spots {
		if c := l[s.Proc].Edges[s.Edge].Command; c.Check == api.CheckAssert {
			checks = append(checks, [2]int{s.Proc, c.At})
		}
	}
	want(t, fmt.Sprintf("the assertions of %+v", p), checks, places, e, api.OK)
}

// statements returns the statements of a body and those within them, in their order.
func statements(body []api.Stmt) []api.Stmt {
	var all []api.Stmt
	for _, s := range body {
		all = append(all, s)
		all = append(all, statements(s.Body)...)
		all = append(all, statements(s.Else)...)
	}
	return all
}

// memory collects the lists of graphs that have elements, by their first elements.
type memory map[any]bool

func (m memory) exprs(t *testing.T, list ...api.Expr) {
	for _, e := range list {
		if len(e.Args) > 0 {
			m.add(t, &e.Args[0])
		}
		m.exprs(t, e.Args...)
	}
}

func (m memory) cond(t *testing.T, c api.Cond) {
	if len(c.Exprs) > 0 {
		m.add(t, &c.Exprs[0])
		m.exprs(t, c.Exprs...)
	}
	if len(c.Args) > 0 {
		m.add(t, &c.Args[0])
	}
	for _, a := range c.Args {
		m.cond(t, a)
	}
}

func (m memory) add(t *testing.T, list any) {
	if m[list] {
		t.Errorf("two lists share memory")
	}
	m[list] = true
}

func (m memory) operands(t *testing.T, index, value api.Expr, c api.Cond, args []api.Expr, results []int) {
	m.exprs(t, index, value)
	m.cond(t, c)
	if len(args) > 0 {
		m.add(t, &args[0])
		m.exprs(t, args...)
	}
	if len(results) > 0 {
		m.add(t, &results[0])
	}
}

// TestMemory looks for lists that two commands have, or a command and a statement (P1).
func TestMemory(t *testing.T) {
	r := rand.New(rand.NewSource(4))
	for range 500 {
		p := random(r)
		before := fmt.Sprintf("%+v", p)
		l := built(t, p)
		m := memory{}
		for i, q := range p.Procs {
			for _, s := range statements(q.Body) {
				m.operands(t, s.Index, s.Expr, s.Cond, s.Args, s.Results)
			}
			for _, edge := range l[i].Edges {
				c := edge.Command
				m.operands(t, c.Index, c.Expr, c.Cond, c.Args, c.Results)
			}
		}
		want(t, "the program", fmt.Sprintf("%+v", p), before, 0, 0)
	}
	p := read(t, base)
	spots, _ := Spots(p, built(t, p))
	spots[0] = api.Spot{Proc: 7}
	again, _ := Spots(p, built(t, p))
	want(t, "Spots", again[0], api.Spot{Proc: 1, Edge: 2}, 0, 0)
}
