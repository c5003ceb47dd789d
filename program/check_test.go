package program

import (
	"fmt"
	"strings"
	"testing"

	"surveyor/api"
)

// base has a procedure with all kinds of statements, as the second of three.
const base = "proc main() { } proc f(a, b) returns (c, d) requires a = b ensures c = a { var r, i; array s[4]; array t[32]; c := a; d := input; r := s[a]; t[b] := c; if a = 1 { i := 1; } else { i := 2; } while i < 3 { i := i + 1; } assert c = 1; assume d = 2; r, i := f(a + 1, b / 2); } import proc g(x) returns (y);"

// edit changes a program; f is its second procedure.
type edit struct {
	what string
	make func(p *api.Program, f *api.Proc)
	e    api.Errno
}

// edited returns the base with changes.
func edited(t *testing.T, list ...edit) api.Program {
	t.Helper()
	p := read(t, base)
	for _, c := range list {
		c.make(&p, &p.Procs[1])
	}
	return p
}

// statement returns the edit of the statement of f with an index.
func statement(i int, what string, change func(s *api.Stmt), e api.Errno) edit {
	return edit{fmt.Sprint("statement ", i, ": ", what), func(_ *api.Program, f *api.Proc) { change(&f.Body[i]) }, e}
}

// manyStmts returns statements without statements within.
func manyStmts(n int) []api.Stmt {
	return make([]api.Stmt, n)
}

// nested returns n statements, each one within the one before.
func nested(n int) []api.Stmt {
	var body []api.Stmt
	for i := range n {
		if i%3 == 2 {
			body = []api.Stmt{{Op: api.StmtIf, Else: body}}
		} else {
			body = []api.Stmt{{Op: api.StmtWhile - i%2, Body: body}}
		}
	}
	return body
}

// asserts returns n assertions.
func asserts(n int) []api.Stmt {
	list := manyStmts(n)
	for i := range list {
		list[i].Op = api.StmtAssert
	}
	return list
}

var (
	wrongCond = api.Cond{Op: 9}
	deepExpr  = api.Expr{Op: api.ExprNeg, Args: []api.Expr{{Op: api.ExprNeg, Args: []api.Expr{{Op: api.ExprNeg, Args: []api.Expr{num("1")}}}}}}
)

// procEdits are changes of a procedure, each with its error, in the order of the errors.
func procEdits() []edit {
	return []edit{
		{"no name", func(_ *api.Program, f *api.Proc) { f.Name = "" }, api.ErrName},
		{"a reserved name", func(_ *api.Program, f *api.Proc) { f.Name = "proc" }, api.ErrName},
		{"a long name", func(_ *api.Program, f *api.Proc) { f.Name = strings.Repeat("f", 25) }, api.ErrName},
		{"two names", func(_ *api.Program, f *api.Proc) { f.Name = "f.g" }, api.ErrName},
		{"the name of an earlier procedure", func(_ *api.Program, f *api.Proc) { f.Name = "main" }, api.ErrTwice},
		{"13 variables", func(_ *api.Program, f *api.Proc) {
			f.Vars = append(f.Vars, "v0", "v1", "v2", "v3", "v4", "v5", "v6", "v7")[:13]
		}, api.ErrMany},
		{"negative parameters", func(_ *api.Program, f *api.Proc) { f.Params = -1 }, api.ErrShape},
		{"negative results", func(_ *api.Program, f *api.Proc) { f.Results = -1 }, api.ErrShape},
		{"too many parameters", func(_ *api.Program, f *api.Proc) { f.Params = 13 }, api.ErrShape},
		{"too many results", func(_ *api.Program, f *api.Proc) { f.Results = 13 }, api.ErrShape},
		{"a sum that is no int", func(_ *api.Program, f *api.Proc) { f.Params, f.Results = 1<<63-1, 1<<63-1 }, api.ErrShape},
		{"a sum that is too large", func(_ *api.Program, f *api.Proc) { f.Params, f.Results = len(f.Vars)-1, 2 }, api.ErrShape},
		{"a reserved variable", func(_ *api.Program, f *api.Proc) { f.Vars[0] = "if" }, api.ErrName},
		{"a variable without a name", func(_ *api.Program, f *api.Proc) { f.Vars[0] = "" }, api.ErrName},
		{"a variable without a field", func(_ *api.Program, f *api.Proc) { f.Vars[0] = "a." }, api.ErrName},
		{"a field without a variable", func(_ *api.Program, f *api.Proc) { f.Vars[0] = ".a" }, api.ErrName},
		{"two points", func(_ *api.Program, f *api.Proc) { f.Vars[0] = "a.b.c" }, api.ErrName},
		{"a reserved field", func(_ *api.Program, f *api.Proc) { f.Vars[0] = "a.if" }, api.ErrName},
		{"a reserved record", func(_ *api.Program, f *api.Proc) { f.Vars[0] = "if.a" }, api.ErrName},
		{"a blank", func(_ *api.Program, f *api.Proc) { f.Vars[0] = "a. b" }, api.ErrName},
		{"two variables", func(_ *api.Program, f *api.Proc) { f.Vars[1] = f.Vars[0] }, api.ErrTwice},
		{"five arrays", func(_ *api.Program, f *api.Proc) {
			f.Arrays = append(f.Arrays, api.Array{Name: "t2", Len: 1}, api.Array{Name: "t3", Len: 1}, api.Array{Name: "t4", Len: 1})
		}, api.ErrMany},
		{"an array without a name", func(_ *api.Program, f *api.Proc) { f.Arrays[0].Name = "" }, api.ErrName},
		{"an array with two names", func(_ *api.Program, f *api.Proc) { f.Arrays[0].Name = "s.u" }, api.ErrName},
		{"an array and a variable", func(_ *api.Program, f *api.Proc) { f.Arrays[0].Name = "r" }, api.ErrTwice},
		{"no elements", func(_ *api.Program, f *api.Proc) { f.Arrays[0].Len = 0 }, api.ErrRange},
		{"less than no elements", func(_ *api.Program, f *api.Proc) { f.Arrays[0].Len = -1 }, api.ErrRange},
		{"33 elements", func(_ *api.Program, f *api.Proc) { f.Arrays[0].Len = 33 }, api.ErrRange},
		{"two arrays", func(_ *api.Program, f *api.Proc) { f.Arrays[1].Name = "s" }, api.ErrTwice},
		{"requires", func(_ *api.Program, f *api.Proc) { f.Requires = wrongCond }, api.ErrArg},
		{"requires of a result", func(_ *api.Program, f *api.Proc) {
			f.Requires = api.Cond{Op: api.CondEq, Exprs: []api.Expr{num("1"), variable(2)}}
		}, api.ErrNone},
		{"ensures", func(_ *api.Program, f *api.Proc) { f.Ensures = api.Cond{Op: api.CondNot} }, api.ErrShape},
		{"ensures of a local variable", func(_ *api.Program, f *api.Proc) {
			f.Ensures = api.Cond{Op: api.CondEq, Exprs: []api.Expr{num("1"), variable(4)}}
		}, api.ErrNone},
		{"an import with a body", func(_ *api.Program, f *api.Proc) { f.Extern = true }, api.ErrForm},
		{"129 statements", func(_ *api.Program, f *api.Proc) { f.Body = append(f.Body, asserts(118)...) }, api.ErrMany},
		{"129 nested statements", func(_ *api.Program, f *api.Proc) { f.Body[4].Else = append(f.Body[4].Else, asserts(118)...) }, api.ErrMany},
		{"17 levels", func(_ *api.Program, f *api.Proc) { f.Body = append(f.Body, nested(17)...) }, api.ErrDeep},
		{"17 levels within", func(_ *api.Program, f *api.Proc) { f.Body[4].Else = nested(16) }, api.ErrDeep},
		{"a statement", func(_ *api.Program, f *api.Proc) { f.Body[0].At = -1 }, api.ErrRange},
	}
}

// statementEdits are changes of one statement after the other, each with its error, in the order of the errors.
func statementEdits() []edit {
	at := func(at int) func(*api.Stmt) { return func(s *api.Stmt) { s.At = at } }
	op := func(op int) func(*api.Stmt) { return func(s *api.Stmt) { s.Op = op } }
	place := func(v int) func(*api.Stmt) { return func(s *api.Stmt) { s.Var = v } }
	array := func(a int) func(*api.Stmt) { return func(s *api.Stmt) { s.Array = a } }
	index := func(e api.Expr) func(*api.Stmt) { return func(s *api.Stmt) { s.Index = e } }
	value := func(e api.Expr) func(*api.Stmt) { return func(s *api.Stmt) { s.Expr = e } }
	test := func(c api.Cond) func(*api.Stmt) { return func(s *api.Stmt) { s.Cond = c } }
	proc := func(i int) func(*api.Stmt) { return func(s *api.Stmt) { s.Proc = i } }
	args := func(l ...api.Expr) func(*api.Stmt) { return func(s *api.Stmt) { s.Args = l } }
	results := func(l ...int) func(*api.Stmt) { return func(s *api.Stmt) { s.Results = l } }
	var list []edit
	for i := range 9 {
		list = append(list, statement(i, "Op", op(-1), api.ErrArg), statement(i, "Op", op(9), api.ErrArg), statement(i, "Op", op(1<<40), api.ErrArg), statement(i, "At", at(-1), api.ErrRange), statement(i, "At", at(65537), api.ErrRange))
		list = append(list, unusedEdits(i)...)
		switch i {
		case 0, 1, 2:
			list = append(list, statement(i, "Var", place(-1), api.ErrNone), statement(i, "Var", place(6), api.ErrNone), statement(i, "Var", place(0), api.ErrUse), statement(i, "Var", place(1), api.ErrUse))
		}
		switch i {
		case 2, 3:
			list = append(list, statement(i, "Array", array(-1), api.ErrNone), statement(i, "Array", array(2), api.ErrNone), statement(i, "Index", index(api.Expr{}), api.ErrForm), statement(i, "Index", index(variable(6)), api.ErrNone), statement(i, "Index", index(node(api.ExprAdd)), api.ErrShape))
		}
		switch i {
		case 0, 3:
			list = append(list, statement(i, "Expr", value(api.Expr{}), api.ErrForm), statement(i, "Expr", value(num(huge)), api.ErrLarge), statement(i, "Expr", value(variable(6)), api.ErrNone), statement(i, "Expr", value(node(-1)), api.ErrArg))
		case 4, 5, 6, 7:
			list = append(list, statement(i, "Cond", test(wrongCond), api.ErrArg), statement(i, "Cond", test(api.Cond{Op: api.CondOr}), api.ErrShape), statement(i, "Cond", test(api.Cond{Op: api.CondLt, Exprs: []api.Expr{num("1"), variable(6)}}), api.ErrNone))
		case 8:
			list = append(list, statement(i, "Proc", proc(-1), api.ErrNone), statement(i, "Proc", proc(3), api.ErrNone), statement(i, "Args", args(), api.ErrShape), statement(i, "Args", args(num("1")), api.ErrShape), statement(i, "Args", args(num("1"), num("1"), num("1")), api.ErrShape), statement(i, "Args", args(api.Expr{}, variable(6)), api.ErrForm), statement(i, "Args", args(variable(6), api.Expr{}), api.ErrNone))
			list = append(list, statement(i, "Results", results(4), api.ErrShape), statement(i, "Results", results(4, 5, 2), api.ErrShape), statement(i, "Results", results(), api.ErrShape), statement(i, "Results", results(4, 6), api.ErrNone), statement(i, "Results", results(-1, 4), api.ErrNone), statement(i, "Results", results(4, 1), api.ErrUse), statement(i, "Results", results(0, 0), api.ErrUse), statement(i, "Results", results(6, 6), api.ErrNone), statement(i, "Results", results(4, 4), api.ErrTwice))
		}
		if i == 4 || i == 5 {
			list = append(list, statement(i, "Body", func(s *api.Stmt) { s.Body[0].Op = 9 }, api.ErrArg))
		}
		if i == 4 {
			list = append(list, statement(i, "Else", func(s *api.Stmt) { s.Else[0].Var = 6 }, api.ErrNone))
		}
	}
	return list
}

// unusedEdits fill the fields of a statement that its operation does not use.
func unusedEdits(i int) []edit {
	op := []int{api.StmtAssign, api.StmtInput, api.StmtLoad, api.StmtStore, api.StmtIf, api.StmtWhile, api.StmtAssert, api.StmtAssume, api.StmtCall}[i]
	var list []edit
	for _, c := range []struct {
		letter string
		change func(s *api.Stmt)
	}{
		{"V", func(s *api.Stmt) { s.Var = 4 }}, {"V", func(s *api.Stmt) { s.Var = -1 }}, {"A", func(s *api.Stmt) { s.Array = 1 }}, {"A", func(s *api.Stmt) { s.Array = -1 }}, {"P", func(s *api.Stmt) { s.Proc = 1 }}, {"P", func(s *api.Stmt) { s.Proc = -1 }},
		{"I", func(s *api.Stmt) { s.Index = num("0") }}, {"I", func(s *api.Stmt) { s.Index = api.Expr{Op: api.ExprVar} }}, {"I", func(s *api.Stmt) { s.Index = api.Expr{Var: 1} }}, {"I", func(s *api.Stmt) { s.Index = api.Expr{Args: make([]api.Expr, 1)} }}, {"E", func(s *api.Stmt) { s.Expr = num("1") }}, {"E", func(s *api.Stmt) { s.Expr = node(-1) }}, {"E", func(s *api.Stmt) { s.Expr = deepExpr }},
		{"C", func(s *api.Stmt) { s.Cond = api.Cond{Op: api.CondFalse} }}, {"C", func(s *api.Stmt) { s.Cond = api.Cond{Exprs: make([]api.Expr, 1)} }}, {"C", func(s *api.Stmt) { s.Cond = api.Cond{Args: make([]api.Cond, 1)} }}, {"G", func(s *api.Stmt) { s.Args = []api.Expr{num("1")} }}, {"R", func(s *api.Stmt) { s.Results = []int{0} }}, {"B", func(s *api.Stmt) { s.Body = asserts(1) }}, {"B", func(s *api.Stmt) { s.Body = []api.Stmt{{Op: 9}} }}, {"L", func(s *api.Stmt) { s.Else = asserts(1) }},
	} {
		if !strings.Contains(fields[op], c.letter) {
			list = append(list, statement(i, "unused "+c.letter, c.change, api.ErrForm))
		}
	}
	return list
}

func TestP14_1Check(t *testing.T) {
	want(t, "Check", Check(read(t, base)), api.OK, 0, 0)
	for _, list := range [][]edit{procEdits(), statementEdits()} {
		for _, c := range list {
			p := edited(t, c)
			want(t, c.what, Check(p), c.e, referenceCheck(p), c.e)
		}
	}
}

// TestP14_1Order has programs with two errors. Some changes undo others, so that the reference says which error is left.
func TestP14_1Order(t *testing.T) {
	all := append(procEdits(), statementEdits()...)
	first := 0
	for i, a := range all {
		for j, b := range all {
			if (i+j)%3 != 0 {
				continue
			}
			p := edited(t, a, b)
			e := referenceCheck(p)
			if got := Check(p); got != e {
				t.Errorf("%s and %s: got %d, want %d", a.what, b.what, got, e)
			}
			if i < j && e == a.e {
				first++
			}
		}
	}
	if first < len(all)*len(all)/8 {
		t.Errorf("only for %d pairs of %d changes the first error counts", first, len(all))
	}
}

// TestP14_1Procedures has programs with several procedures that are wrong.
func TestP14_1Procedures(t *testing.T) {
	wrong := func(p *api.Program) { p.Procs[2].Name = "" }
	for _, c := range procEdits() {
		p := edited(t, c)
		wrong(&p)
		want(t, c.what+" before another procedure", Check(p), c.e, 0, 0)
	}
	p := read(t, base)
	wrong(&p)
	want(t, "the third procedure", Check(p), api.ErrName, 0, 0)
	// A call of a procedure that has errors itself, but behind the one that calls it.
	p = read(t, "proc f() { g(1); } proc g(x) { }")
	p.Procs[1].Params = -1
	want(t, "a call of a wrong procedure", Check(p), api.ErrShape, 0, 0)
	p.Procs[1].Params, p.Procs[1].Vars = 1, nil
	want(t, "a call of a wrong procedure", Check(p), api.ErrShape, 0, 0)
	p.Procs[1] = api.Proc{Name: "if", Params: 1, Vars: []string{"x"}}
	want(t, "a call of a wrong procedure", Check(p), api.ErrName, 0, 0)
	for n, e := range map[int]api.Errno{0: api.OK, 1: api.OK, 12: api.OK, 13: api.ErrMany, 100: api.ErrMany} {
		var p api.Program
		for i := range n {
			p.Procs = append(p.Procs, api.Proc{Name: fmt.Sprint("p", i)})
		}
		want(t, fmt.Sprint(n, " procedures"), Check(p), e, 0, 0)
	}
	want(t, "13 procedures without names", Check(api.Program{Procs: make([]api.Proc, 13)}), api.ErrMany, 0, 0)
	want(t, "12 procedures without names", Check(api.Program{Procs: make([]api.Proc, 12)}), api.ErrName, 0, 0)
}

// TestP14_1Limits has procedures at the limits.
func TestP14_1Limits(t *testing.T) {
	twelve := strings.Fields("a b c d e f.g h i j k l " + strings.Repeat("m", 24) + "." + strings.Repeat("n", 24))
	four := []api.Array{{Name: "p", Len: 1}, {Name: "q", Len: 32}, {Name: "f", Len: 2}, {Name: strings.Repeat("r", 24), Len: 3}}
	for i, c := range []struct {
		p api.Proc
		e api.Errno
	}{
		{api.Proc{Vars: twelve, Arrays: four}, api.OK}, {api.Proc{Vars: twelve, Params: 12}, api.OK}, {api.Proc{Vars: twelve, Results: 12}, api.OK}, {api.Proc{Vars: twelve, Params: 5, Results: 7}, api.OK}, {api.Proc{Vars: twelve, Params: 6, Results: 7}, api.ErrShape}, {api.Proc{Vars: []string{"x", "x.y"}}, api.OK}, {api.Proc{Vars: []string{"x.y", "x.y"}}, api.ErrTwice}, {api.Proc{Vars: []string{"x.y", "y.x", "main"}}, api.OK}, {api.Proc{Vars: []string{"x.y"}, Arrays: []api.Array{{Name: "x", Len: 1}, {Name: "y", Len: 1}}}, api.OK}, {api.Proc{Vars: []string{strings.Repeat("m", 25)}}, api.ErrName},
		{api.Proc{Vars: []string{"x", "1", "x"}}, api.ErrName}, {api.Proc{Vars: []string{"x", "x", "1"}}, api.ErrTwice}, {api.Proc{Arrays: []api.Array{{Name: "x", Len: 0}, {Name: "1", Len: 1}}}, api.ErrRange}, {api.Proc{Arrays: []api.Array{{Name: "x", Len: 1}, {Name: "x", Len: 0}}}, api.ErrTwice}, {api.Proc{Arrays: []api.Array{{Name: "1", Len: 0}}}, api.ErrName},
		{api.Proc{Extern: true}, api.OK}, {api.Proc{Extern: true, Vars: []string{"x", "y"}, Params: 1, Results: 1}, api.OK}, {api.Proc{Extern: true, Vars: []string{"x", "y"}, Params: 1}, api.ErrForm}, {api.Proc{Extern: true, Arrays: four[:1]}, api.ErrForm}, {api.Proc{Extern: true, Body: asserts(1)}, api.ErrForm}, {api.Proc{Extern: true, Body: []api.Stmt{}, Arrays: []api.Array{}}, api.OK}, {api.Proc{Extern: true, Body: asserts(200)}, api.ErrForm}, {api.Proc{Extern: true, Body: []api.Stmt{{Op: 9}}}, api.ErrForm},
		{api.Proc{Body: asserts(128)}, api.OK}, {api.Proc{Body: asserts(129)}, api.ErrMany}, {api.Proc{Body: manyStmts(129)}, api.ErrMany}, {api.Proc{Body: append(asserts(126), api.Stmt{Op: api.StmtIf, Body: asserts(1)})}, api.OK}, {api.Proc{Body: append(asserts(126), api.Stmt{Op: api.StmtIf, Body: asserts(1), Else: asserts(1)})}, api.ErrMany}, {api.Proc{Body: []api.Stmt{{Op: 9, Body: asserts(127)}}}, api.ErrArg}, {api.Proc{Body: []api.Stmt{{Op: 9, Body: asserts(64), Else: asserts(64)}}}, api.ErrMany},
		{api.Proc{Body: nested(16)}, api.OK}, {api.Proc{Body: nested(17)}, api.ErrDeep}, {api.Proc{Body: nested(128)}, api.ErrDeep}, {api.Proc{Body: nested(129)}, api.ErrMany}, {api.Proc{Body: []api.Stmt{{Op: 9, Body: nested(16)}}}, api.ErrDeep}, {api.Proc{Body: []api.Stmt{{Op: 9, Body: nested(15)}}}, api.ErrArg},
		{api.Proc{Body: []api.Stmt{{Op: api.StmtAssert, At: 65536}}}, api.OK}, {api.Proc{Body: []api.Stmt{{Op: api.StmtAssert, At: 65537}}}, api.ErrRange}, {api.Proc{Body: []api.Stmt{{Op: api.StmtAssert, Args: []api.Expr{}, Results: []int{}, Body: []api.Stmt{}, Else: []api.Stmt{}, Index: api.Expr{Args: []api.Expr{}}, Expr: api.Expr{Args: []api.Expr{}}}}}, api.OK},
	} {
		c.p.Name = "f"
		p := api.Program{Procs: []api.Proc{c.p}}
		want(t, fmt.Sprint("Check ", i), Check(p), c.e, referenceCheck(p), c.e)
	}
}

// functions are those that return the error of Check first.
var functions = []struct {
	name string
	call func(p api.Program) (any, any, api.Errno) // the result, and the zero value
}{
	{"Find", func(p api.Program) (any, any, api.Errno) { i, e := Find(p, "zzz"); return i, 0, e }},
	{"Size", func(p api.Program) (any, any, api.Errno) {
		a, b, e := Size(p, -1)
		return [2]int{a, b}, [2]int{}, e
	}},
	{"Calls", func(p api.Program) (any, any, api.Errno) { l, e := Calls(p, -1); return l, []int(nil), e }},
	{"Accepts", func(p api.Program) (any, any, api.Errno) {
		return 0, 0, Accepts(p, api.Input{Args: make([]api.Int, 20), Reads: make([]api.Int, 65)})
	}},
	{"Exec", func(p api.Program) (any, any, api.Errno) {
		r, e := Exec(p, api.Input{Args: make([]api.Int, 20)}, -1)
		return r, Result{}, e
	}},
}

func TestFirstErrors(t *testing.T) {
	for _, list := range [][]edit{procEdits(), statementEdits()} {
		for _, c := range list {
			for _, f := range functions {
				got, wanted, e := f.call(edited(t, c))
				want(t, f.name+" with "+c.what, got, wanted, e, c.e)
			}
		}
	}
	for _, f := range functions {
		got, wanted, e := f.call(api.Program{Procs: make([]api.Proc, 13)})
		want(t, f.name, got, wanted, e, api.ErrMany)
	}
}

func TestP14_1Find(t *testing.T) {
	p := read(t, base)
	for name, i := range map[string]int{"main": 0, "f": 1, "g": 2} {
		got, e := Find(p, name)
		want(t, "Find "+name, got, i, e, api.OK)
	}
	for _, name := range []string{"", "h", "F", "f ", "a", "proc"} {
		got, e := Find(p, name)
		want(t, "Find "+name, got, 0, e, api.ErrNone)
	}
	_, e := Find(api.Program{}, "main")
	want(t, "Find", e, api.ErrNone, 0, 0)
}

func TestP14_1Size(t *testing.T) {
	p := read(t, base+"proc h(n) { if n = 1 { while n = 2 { assert true; } assert true; } else if n = 3 { } else { assume true; if n = 4 { } else { h(1); } } }")
	for i, size := range [][2]int{{0, 0}, {12, 2}, {0, 0}, {8, 4}} {
		count, depth, e := Size(p, i)
		want(t, fmt.Sprint("Size ", i), [2]int{count, depth}, size, e, api.OK)
	}
	for _, body := range [][]api.Stmt{asserts(128), append(asserts(112), nested(16)...), nested(16)} {
		count, depth, e := Size(api.Program{Procs: []api.Proc{{Name: "f", Body: body}}}, 0)
		want(t, "Size", [2]int{count, depth}, [2]int{len(list(body)), depthOf(body)}, e, api.OK)
	}
	for _, i := range []int{-1, 4, 1 << 40, -1 << 63} {
		count, depth, e := Size(p, i)
		want(t, fmt.Sprint("Size ", i), [2]int{count, depth}, [2]int{}, e, api.ErrNone)
	}
}

func TestP14_1Calls(t *testing.T) {
	p := read(t, "proc a() { } proc b() { d(); b(); d(); if true { e(); } else { while true { a(); a(); } } } proc c() { c(); } proc d() { c(); b(); a(); } import proc e();")
	for i, called := range [][]int{nil, {0, 1, 3, 4}, {2}, {0, 1, 2}, nil} {
		got, e := Calls(p, i)
		want(t, fmt.Sprint("Calls ", i), got, called, e, api.OK)
	}
	for _, i := range []int{-1, 5, 1 << 40} {
		got, e := Calls(p, i)
		want(t, fmt.Sprint("Calls ", i), got, []int(nil), e, api.ErrNone)
	}
}

func TestP14_1Accepts(t *testing.T) {
	ints := func(n int) []api.Int {
		list := make([]api.Int, n)
		for i := range list {
			list[i] = "1"
		}
		return list
	}
	two := "proc f(a) { } proc main(x, y) returns (z) { }"
	for i, c := range []struct {
		src  string
		x    api.Input
		fuel int
		e    api.Errno
	}{
		{two, api.Input{Args: []api.Int{"1", "-2"}}, 0, api.OK}, {two, api.Input{Args: []api.Int{nines, "-" + nines}, Reads: []api.Int{"0", nines}}, 8192, api.OK}, {"proc main() { }", api.Input{}, 1, api.OK}, {two, api.Input{Args: ints(2), Reads: ints(64)}, 1, api.OK}, {"proc main(a, b, c, d, e, f, g, h, i, j, k, l) { }", api.Input{Args: ints(12)}, 1, api.OK},
		{two + "import proc g();", api.Input{Args: ints(2)}, 1, api.ErrGap}, {"import proc g();", api.Input{Reads: ints(65)}, -1, api.ErrGap}, {"import proc main();", api.Input{}, 1, api.ErrGap}, {"import proc main(x);", api.Input{}, -1, api.ErrGap},
		{"proc f() { }", api.Input{Args: ints(2)}, -1, api.ErrNone}, {"", api.Input{Reads: ints(65)}, 1, api.ErrNone}, {"proc Main() { }", api.Input{}, 1, api.ErrNone},
		{two, api.Input{Args: ints(1), Reads: ints(65)}, 1, api.ErrShape}, {two, api.Input{Args: ints(3)}, -1, api.ErrShape}, {two, api.Input{Args: []api.Int{"x"}}, 1, api.ErrShape}, {two, api.Input{}, 1, api.ErrShape},
		{two, api.Input{Args: ints(2), Reads: ints(65)}, -1, api.ErrMany}, {two, api.Input{Args: []api.Int{"x", "1"}, Reads: make([]api.Int, 65)}, 1, api.ErrMany},
		{two, api.Input{Args: []api.Int{"1", "x"}, Reads: []api.Int{huge}}, -1, api.ErrForm}, {two, api.Input{Args: []api.Int{"1", huge}, Reads: []api.Int{"x"}}, 1, api.ErrLarge}, {two, api.Input{Args: []api.Int{huge, "x"}}, 1, api.ErrLarge}, {two, api.Input{Args: []api.Int{"-0", huge}}, 1, api.ErrForm}, {two, api.Input{Args: ints(2), Reads: []api.Int{"1", ""}}, 1, api.ErrForm}, {two, api.Input{Args: ints(2), Reads: []api.Int{"-" + huge, ""}}, -1, api.ErrLarge}, {two, api.Input{Args: ints(2), Reads: []api.Int{"01", huge}}, 1, api.ErrForm}, {two, api.Input{Args: []api.Int{"1", api.Int(strings.Repeat("9", 5000))}}, 1, api.ErrLarge}, {two, api.Input{Args: []api.Int{"1", "0" + huge}}, 1, api.ErrForm},
		// The fuel comes last.
		{two, api.Input{Args: ints(2)}, -1, api.ErrRange}, {two, api.Input{Args: ints(2)}, 8193, api.ErrRange}, {two, api.Input{Args: ints(2)}, -1 << 63, api.ErrRange},
	} {
		p := read(t, c.src)
		if c.e != api.ErrRange {
			want(t, fmt.Sprint("Accepts ", i), Accepts(p, c.x), c.e, 0, 0)
		} else {
			want(t, fmt.Sprint("Accepts ", i), Accepts(p, c.x), api.OK, 0, 0)
		}
		result, e := Exec(p, c.x, c.fuel)
		if want(t, fmt.Sprint("Exec ", i), 0, 0, e, c.e); c.e != api.OK {
			want(t, fmt.Sprint("Exec ", i), result, Result{}, 0, 0)
		}
	}
}

func TestP14_1Same(t *testing.T) {
	var all []api.Program
	for _, list := range [][]edit{procEdits(), statementEdits()} {
		for _, c := range list {
			all = append(all, edited(t, c))
		}
	}
	all = append(all, read(t, base), api.Program{}, api.Program{Procs: make([]api.Proc, 1)}, read(t, base+"proc h() { }"))
	var texts []string
	for _, p := range all {
		texts = append(texts, fmt.Sprintf("%+v", p))
	}
	for i, a := range all {
		for j, b := range all {
			if isEqual := texts[i] == texts[j]; Same(a, b) != isEqual {
				t.Errorf("Same %d %d: want %t", i, j, isEqual)
			}
		}
	}
	// Statements that have moved.
	bodies := [][]api.Stmt{nil, asserts(1), asserts(2), {{Op: 9, Body: asserts(1)}}, {{Op: 9, Else: asserts(1)}}, {{Op: 9, Body: asserts(1)}, {}}, {{Op: 9}, {Body: asserts(1)}}, {{Op: 9, Body: asserts(2)}}, {{Op: 9, Else: asserts(2)}}, {{Op: 9, Body: asserts(1), Else: asserts(1)}}, nested(100), nested(101)}
	for i, a := range bodies {
		for j, b := range bodies {
			p, q := api.Program{Procs: []api.Proc{{Body: a}}}, api.Program{Procs: []api.Proc{{Body: b}}}
			want(t, fmt.Sprint("Same bodies ", i, " ", j), Same(p, q), i == j, 0, 0)
		}
	}
	empty := api.Program{Procs: []api.Proc{{Vars: []string{}, Arrays: []api.Array{}, Body: []api.Stmt{}}}}
	want(t, "Same", Same(empty, api.Program{Procs: make([]api.Proc, 1)}), true, 0, 0)
	want(t, "Same", Same(api.Program{Procs: []api.Proc{}}, api.Program{}), true, 0, 0)
}

// TestSizes has programs of sizes that only Check and Same take (P1).
func TestSizes(t *testing.T) {
	const size = 300000
	endless := []api.Stmt{{Op: api.StmtWhile}}
	endless[0].Body = endless
	list := []api.Expr{{Op: api.ExprNeg}}
	list[0].Args = list
	for i, c := range []struct {
		body []api.Stmt
		e    api.Errno
	}{
		{nested(size), api.ErrMany}, {manyStmts(size), api.ErrMany}, {endless, api.ErrMany}, {[]api.Stmt{{Op: api.StmtCall, Args: make([]api.Expr, size)}}, api.ErrShape}, {[]api.Stmt{{Op: api.StmtAssert, Args: make([]api.Expr, size)}}, api.ErrForm}, {[]api.Stmt{{Op: api.StmtCall, Results: make([]int, size)}}, api.ErrShape}, {[]api.Stmt{{Op: api.StmtAssert, Expr: list[0]}}, api.ErrForm}, {[]api.Stmt{{Op: api.StmtAssert, Cond: api.Cond{Op: api.CondEq, Exprs: []api.Expr{list[0], num("1")}}}}, api.ErrMany},
	} {
		p := api.Program{Procs: []api.Proc{{Name: "main", Body: c.body}}}
		want(t, fmt.Sprint("Check ", i), Check(p), c.e, 0, 0)
		for _, f := range functions {
			got, wanted, e := f.call(p)
			want(t, f.name, got, wanted, e, c.e)
		}
		if i < 2 {
			want(t, fmt.Sprint("Same ", i), Same(p, p), true, 0, 0)
		}
	}
	want(t, "Check", Check(api.Program{Procs: []api.Proc{{Name: "f", Vars: make([]string, size)}}}), api.ErrMany, 0, 0)
	want(t, "Check", Check(api.Program{Procs: []api.Proc{{Name: strings.Repeat("f", size)}}}), api.ErrName, 0, 0)
	want(t, "Check", Check(api.Program{Procs: make([]api.Proc, size)}), api.ErrMany, 0, 0)
}
