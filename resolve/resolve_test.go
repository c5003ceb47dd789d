package resolve

import (
	"fmt"
	"strings"
	"testing"

	"surveyor/api"
)

// want reports an error if a result is not the expected one.
func want(t *testing.T, what string, got, wanted any) {
	t.Helper()
	if g, w := fmt.Sprintf("%+v", got), fmt.Sprintf("%+v", wanted); g != w {
		t.Errorf("%.500s:\ngot  %.2000s\nwant %.2000s", what, g, w)
	}
}

// result is what a function returns.
type result struct {
	value any
	at    int
	e     api.Errno
}

func programOf(tree api.Syntax) result {
	p, at, e := Program(tree)
	return result{p, at, e}
}

// wantProgram checks the program of a text.
func wantProgram(t *testing.T, src string, procs ...api.Proc) {
	t.Helper()
	want(t, src, programOf(parse(t, src)), result{api.Program{Procs: procs}, 0, api.OK})
}

// wantFault checks the error of a text, in which @ marks the offset.
func wantFault(t *testing.T, marked string, e api.Errno) {
	t.Helper()
	at := strings.Index(marked, "@")
	src := strings.Replace(marked, "@", "", 1)
	if at < 0 {
		t.Errorf("%q has no mark", marked)
	}
	want(t, marked, programOf(parse(t, src)), result{api.Program{}, at, e})
}

// wantRight checks that a text has a program.
func wantRight(t *testing.T, src string) {
	t.Helper()
	_, at, e := Program(parse(t, src))
	want(t, src, result{nil, at, e}, result{nil, 0, api.OK})
}

func num(text api.Int) api.Expr { return api.Expr{Op: api.ExprNum, Num: text} }

func variable(i int) api.Expr { return api.Expr{Op: api.ExprVar, Var: i} }

func node(op int, args ...api.Expr) api.Expr { return api.Expr{Op: op, Args: args} }

func compare(op int, a, b api.Expr) api.Cond { return api.Cond{Op: op, Exprs: []api.Expr{a, b}} }

func connect(op int, args ...api.Cond) api.Cond { return api.Cond{Op: op, Args: args} }

func TestP11_1Examples(t *testing.T) {
	wantProgram(t, "record p { u, v } proc main() returns (r : p) { var s : p, x; s.u := 2; r := s; x, s := f(r, x); } proc f(a : p, n) returns (m, b : p) { }",
		api.Proc{Name: "main", Results: 2, Vars: []string{"r.u", "r.v", "s.u", "s.v", "x"}, Body: []api.Stmt{
			{Op: api.StmtAssign, At: 62, Var: 2, Expr: num("2")},
			{Op: api.StmtAssign, At: 72, Var: 0, Expr: variable(2)},
			{Op: api.StmtAssign, At: 72, Var: 1, Expr: variable(3)},
			{Op: api.StmtCall, At: 80, Proc: 1, Args: []api.Expr{variable(0), variable(1), variable(4)}, Results: []int{4, 2, 3}},
		}},
		api.Proc{Name: "f", Params: 3, Results: 3, Vars: []string{"a.u", "a.v", "n", "m", "b.u", "b.v"}},
	)
	wantFault(t, "proc main(a) { @a := 1; }", api.ErrUse)
	wantFault(t, "proc main() { var x; x := @y + 1; }", api.ErrName)
}

// TestP11_1Statements has all statements.
func TestP11_1Statements(t *testing.T) {
	src := "proc f(a) returns (b) { var c; array s[1]; array t[32];"
	body := []string{"b := -a * 2;", "c := input;", "c := t[b + 1];", "s[a] := c % 3;", "if a < b { c := 1; } else { b := 2; b := 3; }", "if a = b { } else if true { b := a; }", "while not false { assert a != b; assume a > b; }", "c, b := g(a / 2, 7);", "h();", "c := f(c);"}
	at := make([]int, len(body))
	for i, s := range body {
		at[i] = len(src)
		src += s
	}
	src += "} proc g(x, y) returns (z, w) { } import proc h() requires 1 >= 2 ensures false;"
	a, b, c := variable(0), variable(1), variable(2)
	wantProgram(t, src,
		api.Proc{Name: "f", Params: 1, Results: 1, Vars: []string{"a", "b", "c"}, Arrays: []api.Array{{Name: "s", Len: 1}, {Name: "t", Len: 32}}, Body: []api.Stmt{
			{Op: api.StmtAssign, At: at[0], Var: 1, Expr: node(api.ExprMul, node(api.ExprNeg, a), num("2"))},
			{Op: api.StmtInput, At: at[1], Var: 2},
			{Op: api.StmtLoad, At: at[2], Var: 2, Array: 1, Index: node(api.ExprAdd, b, num("1"))},
			{Op: api.StmtStore, At: at[3], Index: a, Expr: node(api.ExprMod, c, num("3"))},
			{Op: api.StmtIf, At: at[4], Cond: compare(api.CondLt, a, b), Body: []api.Stmt{
				{Op: api.StmtAssign, At: at[4] + 11, Var: 2, Expr: num("1")},
			}, Else: []api.Stmt{
				{Op: api.StmtAssign, At: at[4] + 28, Var: 1, Expr: num("2")},
				{Op: api.StmtAssign, At: at[4] + 36, Var: 1, Expr: num("3")},
			}},
			{Op: api.StmtIf, At: at[5], Cond: compare(api.CondEq, a, b), Else: []api.Stmt{
				{Op: api.StmtIf, At: at[5] + 18, Cond: api.Cond{Op: api.CondTrue}, Body: []api.Stmt{{Op: api.StmtAssign, At: at[5] + 28, Var: 1, Expr: a}}},
			}},
			{Op: api.StmtWhile, At: at[6], Cond: connect(api.CondNot, api.Cond{Op: api.CondFalse}), Body: []api.Stmt{
				{Op: api.StmtAssert, At: at[6] + 18, Cond: compare(api.CondNe, a, b)},
				{Op: api.StmtAssume, At: at[6] + 33, Cond: compare(api.CondLt, b, a)},
			}},
			{Op: api.StmtCall, At: at[7], Proc: 1, Args: []api.Expr{node(api.ExprDiv, a, num("2")), num("7")}, Results: []int{2, 1}},
			{Op: api.StmtCall, At: at[8], Proc: 2},
			{Op: api.StmtCall, At: at[9], Args: []api.Expr{c}, Results: []int{2}},
		}},
		api.Proc{Name: "g", Params: 2, Results: 2, Vars: []string{"x", "y", "z", "w"}},
		api.Proc{Name: "h", Extern: true, Requires: compare(api.CondLe, num("2"), num("1")), Ensures: api.Cond{Op: api.CondFalse}},
	)
}

// TestP11_1Records has what is about records.
func TestP11_1Records(t *testing.T) {
	wantProgram(t, "")
	wantProgram(t, "record p { u } record q { u, p }")
	wantProgram(t, "proc p(a : q, b : p) returns (p) requires a.u < b.u ensures a.p - p = 0 { } record p { u } record q { u, p }", api.Proc{
		Name: "p", Params: 3, Results: 1, Vars: []string{"a.u", "a.p", "b.u", "p"}, Requires: compare(api.CondLt, variable(0), variable(2)),
		Ensures: compare(api.CondEq, node(api.ExprSub, variable(1), variable(3)), num("0")),
	})
	wantProgram(t, "record p{u} proc f(a:p)returns(b:p){var c:p;b:=a;c:=c;c.u:=b.u;b.u:=input;c:=f(b);b.u:=g(a.u);} proc g(a)returns(b){array c[2];b:=c[a];}",
		api.Proc{Name: "f", Params: 1, Results: 1, Vars: []string{"a.u", "b.u", "c.u"}, Body: []api.Stmt{
			{Op: api.StmtAssign, At: 44, Var: 1, Expr: variable(0)}, {Op: api.StmtAssign, At: 49, Var: 2, Expr: variable(2)}, {Op: api.StmtAssign, At: 54, Var: 2, Expr: variable(1)},
			{Op: api.StmtInput, At: 63, Var: 1}, {Op: api.StmtCall, At: 74, Args: []api.Expr{variable(1)}, Results: []int{2}}, {Op: api.StmtCall, At: 82, Proc: 1, Args: []api.Expr{variable(0)}, Results: []int{1}},
		}},
		api.Proc{Name: "g", Params: 1, Results: 1, Vars: []string{"a", "b"}, Arrays: []api.Array{{Name: "c", Len: 2}}, Body: []api.Stmt{{Op: api.StmtLoad, At: 127, Var: 1, Index: variable(0)}}},
	)
}

// TestP11_1Faults has each error at each place where it can be.
func TestP11_1Faults(t *testing.T) {
	for _, c := range []struct {
		marked string
		e      api.Errno
	}{
		{"record p { u } @record p { v }", api.ErrTwice}, {"record p { u, @u }", api.ErrTwice}, {"record p { u, v, w, x, y, z, @a }", api.ErrMany}, {"record p { u, v, w, x, y, z, @u }", api.ErrMany},
		{"proc f() { } @proc f() { }", api.ErrTwice}, {"proc f() { } @import proc f();", api.ErrTwice}, {"import proc f(); @proc f() { }", api.ErrTwice},
		{"proc f(a : @p) { }", api.ErrName}, {"proc f() returns (a : @p) { }", api.ErrName}, {"proc f() { var a : @p; }", api.ErrName}, {"import proc f(a : @f);", api.ErrName},
		{"proc f(a, @a) { }", api.ErrTwice}, {"proc f(a) returns (@a) { }", api.ErrTwice}, {"proc f() returns (a, @a) { }", api.ErrTwice}, {"proc f(a) { var @a; }", api.ErrTwice}, {"proc f() returns (a) { var @a; }", api.ErrTwice}, {"proc f() { var a, @a; }", api.ErrTwice}, {"proc f() { var a; var @a; }", api.ErrTwice}, {"record p { u } proc f(a : p, @a) { }", api.ErrTwice}, {"record p { u } proc f(a, @a : p) { }", api.ErrTwice},
		{"proc f() { var a; @array a[1]; }", api.ErrTwice}, {"proc f() { array a[1]; @array a[1]; }", api.ErrTwice}, {"proc f(a) { @array a[1]; }", api.ErrTwice}, {"proc f() { array a[1]; var @a; }", api.ErrTwice}, {"record p { u } proc f() { var a : p; @array a[1]; }", api.ErrTwice},
		{"proc f() { @array a[0]; }", api.ErrRange}, {"proc f() { @array a[33]; }", api.ErrRange}, {"proc f() { @array a[1048576]; }", api.ErrRange},
		{"proc f() { array a[1]; array b[1]; array c[1]; array d[1]; @array e[1]; }", api.ErrMany},
		{"proc f() requires @a < 1 { }", api.ErrName}, {"proc f() ensures 1 < @a { }", api.ErrName}, {"proc f() returns (a) requires @a < 1 { }", api.ErrUse}, {"record p { u } proc f() returns (a : p) requires 1 = @a.u { }", api.ErrUse}, {"proc f(a) requires @a { }", api.ErrType}, {"proc f(a) ensures @a + 1 { }", api.ErrType}, {"proc f() ensures @a = 1 { var a; }", api.ErrName},
		{"proc f() { var a; @b := 1; }", api.ErrName}, {"proc f() { var a; @a.u := 1; }", api.ErrType}, {"record p { u } proc f() { var a : p; a.@v := 1; }", api.ErrName}, {"record p { u } proc f(a : p) { @a.u := 1; }", api.ErrUse}, {"record p { u } proc f(a : p) { @a := a; }", api.ErrUse}, {"proc f() { array a[1]; @a := 1; }", api.ErrName}, {"proc f() { @f := 1; }", api.ErrName},
		{"proc f() { var a, b; a, b, @a := f(); }", api.ErrTwice}, {"record p { u, v } proc f() { var a : p; a.u, a.v, @a := f(); }", api.ErrTwice}, {"record p { u, v } proc f() { var a : p; a, @a.v := f(); }", api.ErrTwice}, {"record p { u, v } proc f() { var a : p; a.v, @a.v := f(); }", api.ErrTwice},
		{"proc f() { var a, b; @a, b := input; }", api.ErrShape}, {"record p { u } proc f() { var a : p; a := @input; }", api.ErrType},
		{"proc f() { var a; a := @b[1]; }", api.ErrName}, {"proc f() { var a; a := @a[1]; }", api.ErrName}, {"proc f() { var a, b; array c[1]; @a, b := c[1]; }", api.ErrShape}, {"record p { u } proc f() { var a : p; array c[1]; a := @c[1]; }", api.ErrType}, {"proc f() { var a; array c[1]; a := c[@b]; }", api.ErrName}, {"proc f() { var a; array c[1]; a := c[1 + (@a < 1)]; }", api.ErrType},
		{"proc f() { @g(); }", api.ErrName}, {"proc f() { var a; a := @g(b); }", api.ErrName}, {"record g { u } proc f() { @g(); }", api.ErrName},
		{"proc f() { @f(1); }", api.ErrShape}, {"proc f(a, b) { @f(1); }", api.ErrShape}, {"proc f(a) { var b; b := @f(); }", api.ErrShape}, {"proc f(a) { f(@b); }", api.ErrName}, {"proc f(a, b) { f(a, 1 + @true); }", api.ErrType},
		{"record p { u } proc f(a : p) { f(@1); }", api.ErrType}, {"record p { u } proc f(a : p) { f(@-a); }", api.ErrType}, {"record p { u } proc f(a : p) { f(@a.u); }", api.ErrType}, {"record p { u } proc f(a : p, b) { f(a, @a); }", api.ErrType}, {"record p { u } proc f(a : p, b) { f(@b, b); }", api.ErrType}, {"record p { u } record q { u } proc f(a : p, b : q) { f(a, @a); }", api.ErrType}, {"record p { u } proc f(a : p) { f(@c); }", api.ErrName}, {"record p { u } proc f(a : p) { f(a.@c); }", api.ErrName},
		{"proc f() returns (a) { @f(); }", api.ErrShape}, {"proc f() returns (a) { var b; @a, b := f(); }", api.ErrShape}, {"proc f() { var b; @b := f(); }", api.ErrShape}, {"record p { u } proc f() returns (a : p, b) { var c; @c, b := f(); }", api.ErrType}, {"record p { u } proc f() returns (a : p, b) { var c : p; a, @c := f(); }", api.ErrType}, {"record p { u } proc f() returns (a : p, b) { @a.u, b := f(); }", api.ErrType}, {"record p { u } record q { u } proc f() returns (a : p) { var c : q; @c := f(); }", api.ErrType},
		{"proc f() { var a, b; @a, b := 1; }", api.ErrShape}, {"record p { u } proc f(a : p) { var b; b := @a; }", api.ErrType}, {"record p { u } proc f(a : p) { var b : p; b := @a.u; }", api.ErrType}, {"record p { u } proc f(a : p) { var b : p; b := @1; }", api.ErrType}, {"record p { u } proc f(a : p) { var b : p; b := @a + a; }", api.ErrType}, {"record p { u } record q { u } proc f(a : p) { var b : q; b := @a; }", api.ErrType}, {"record p { u } proc f(a : p) { var b : p; b := @c; }", api.ErrName},
		{"proc f() { var a; a := @true; }", api.ErrType}, {"proc f() { var a; a := (@a < 1); }", api.ErrType}, {"proc f() { var a; a := 1 + (@not true); }", api.ErrType}, {"proc f() { var a; a := -(@a = b) * c; }", api.ErrType}, {"proc f() { var a; a := 1 - (@a and b); }", api.ErrType},
		{"proc f() { @a[1] := 2; }", api.ErrName}, {"proc f(a) { @a[1] := 2; }", api.ErrName}, {"proc f() { array a[1]; a[@b] := c; }", api.ErrName}, {"proc f() { array a[1]; a[1] := 2 + @c; }", api.ErrName}, {"proc f() { array a[1]; a[@false] := c; }", api.ErrType},
		{"proc f() { if @1 { } }", api.ErrType}, {"proc f() { while @x { } }", api.ErrType}, {"proc f() { assert @1 + 1; }", api.ErrType}, {"proc f() { assume not @x; }", api.ErrType}, {"proc f() { assume not (true or @-x); }", api.ErrType}, {"proc f() { assume (@true) < 1; }", api.ErrType}, {"proc f() { assume 1 < (@not true); }", api.ErrType}, {"proc f() { assume 1 = @x; }", api.ErrName}, {"record p { u } proc f(a : p) { assume 1 = @a; }", api.ErrType},
		{"proc f() { if true { @x := 1; } }", api.ErrName}, {"proc f() { if true { } else { @x := 1; } }", api.ErrName}, {"proc f() { if true { } else if false { @x := 1; } }", api.ErrName}, {"proc f() { while true { @x := 1; } }", api.ErrName}, {"proc f() { if true { } else if @x { } }", api.ErrType},
	} {
		wantFault(t, c.marked, c.e)
	}
}

// TestP11_1Order has two errors, of which the one with the mark counts.
func TestP11_1Order(t *testing.T) {
	for _, c := range []struct {
		marked string
		e      api.Errno
	}{
		{"proc f(a : q) { } record p { u, @u }", api.ErrTwice}, {"record p { u, @u } record p { v }", api.ErrTwice}, {"record p { u } @record p { v, v }", api.ErrTwice},
		{"proc f() { a := 1; } proc g(b, @b) { }", api.ErrTwice}, {"proc f() requires @a = 1 { } proc f() { }", api.ErrName}, {"proc f() { } @proc f(a, a) { }", api.ErrTwice}, {"proc f() { var a : p; } proc g() ensures @a = 1 { }", api.ErrName},
		{"proc f(a : @p, a) returns (a) { }", api.ErrName}, {"proc f(a, a : @p) { }", api.ErrName}, {"proc f(a, @a) returns (b : p) { }", api.ErrTwice}, {"proc f(a) returns (@a) requires b = 1 { }", api.ErrTwice}, {"proc f() requires @a ensures b { }", api.ErrType},
		{"proc f() { var a; @array a[0]; }", api.ErrTwice}, {"proc f() { array a[1]; array b[1]; array c[1]; array d[1]; @array d[0]; }", api.ErrTwice}, {"proc f() { array a[1]; array b[1]; array c[1]; array d[1]; @array e[0]; }", api.ErrMany},
		{"proc f() { @array a[0]; var b, b; }", api.ErrRange}, {"proc f() { var b, @b; array a[0]; }", api.ErrTwice}, {"proc f() { @array a[0]; a := 1; }", api.ErrRange}, {"proc f() { @a := 1; } proc g() { b := 1; }", api.ErrName},
		{"record p { a, b, c, d, e, f } proc f(x : p, y : p, @z) returns (x) { }", api.ErrMany}, {"record p { a, b, c, d, e, f } proc f(x : p, y : p, @x) { }", api.ErrTwice},
		{"proc f(a) { @a := b; }", api.ErrUse}, {"proc f(a) { @a, a := b; }", api.ErrUse}, {"proc f() { var a; a, @a := b; }", api.ErrTwice}, {"proc f(a) { var b; b, @a, b := 1; }", api.ErrUse}, {"proc f() { var a; a, @b := input; }", api.ErrName},
		{"record p { u } proc f() { var a : p, b; @a, b := input; }", api.ErrShape}, {"record p { u } proc f() { var a : p, b; a, b := @c[d]; }", api.ErrName}, {"record p { u } proc f() { var a : p, b; array c[1]; a, b := c[@d]; }", api.ErrName}, {"record p { u } proc f() { var a : p, b; array c[1]; @a, b := c[0]; }", api.ErrShape},
		{"proc f(x) { var a, b; a, b := @g(c); }", api.ErrName}, {"proc f(x) { var a, b; a, b := @f(c, c); }", api.ErrShape}, {"proc f(x) { var a, b; a, b := f(@c); }", api.ErrName}, {"record p { u } proc f() returns (a, b) { var c : p; @c := f(); }", api.ErrShape}, {"record p { u } proc f(a, b : p) { f(@c, c); }", api.ErrName}, {"record p { u } proc f(a, b : p) { f(a, @1 + c); }", api.ErrType},
		{"proc f() { var a, b; @a, b := c; }", api.ErrShape}, {"proc f() { @a[b] := c; }", api.ErrName}, {"proc f() { array a[1]; a[@b] := (1 = 2); }", api.ErrName},
		{"proc f() { var a; a := @b + c; }", api.ErrName}, {"proc f() { var a; a := (@1 = 2) + c; }", api.ErrType}, {"proc f() { assume @a < b and c; }", api.ErrName}, {"proc f() { assume @a and b < c; }", api.ErrType}, {"proc f() { assume true or @a > b; }", api.ErrName}, {"proc f() { assume (@a < b) + 1 < 2; }", api.ErrType},
		{"proc f() { if @a { b := 1; } else { c := 1; } }", api.ErrType}, {"proc f() { if true { @b := 1; } else { c := 1; } }", api.ErrName}, {"proc f() { while @a { b := 1; } }", api.ErrType},
		{"record p { u } proc f() returns (a : p) requires @a = 1 { }", api.ErrUse}, {"record p { u } proc f() returns (a : p) requires a.@v = 1 { }", api.ErrName}, {"proc f() returns (a) requires @a.u = 1 { }", api.ErrType},
	} {
		wantFault(t, c.marked, c.e)
	}
}
