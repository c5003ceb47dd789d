package operands

import (
	"fmt"
	"reflect"
	"testing"

	"surveyor/api"
)

func num(text api.Int) api.Expr { return api.Expr{Op: api.ExprNum, Num: text} }

func variable(i int) api.Expr { return api.Expr{Op: api.ExprVar, Var: i} }

func node(op int, args ...api.Expr) api.Expr { return api.Expr{Op: op, Args: args} }

func less(a, b api.Expr) api.Cond { return api.Cond{Op: api.CondLt, Exprs: []api.Expr{a, b}} }

// want reports an error if a value is not the expected one.
func want(t *testing.T, what string, got, wanted any) {
	t.Helper()
	if fmt.Sprintf("%+v", got) != fmt.Sprintf("%+v", wanted) {
		t.Errorf("%s:\ngot  %+v\nwant %+v", what, got, wanted)
	}
}

// full returns operands of which no field is zero, in new memory.
func full() Operands {
	x, y := variable(0), variable(1)
	both := api.Cond{Op: api.CondAnd, Args: []api.Cond{less(node(api.ExprDiv, x, y), num("1")), {Op: api.CondTrue}}}
	return Operands{1, 2, 3, node(api.ExprNeg, x), node(api.ExprAdd, x, node(api.ExprMul, y, x)), both, []api.Expr{x, node(api.ExprSub, x, y)}, []int{4, 5}}
}

// one returns operands of which one field is not zero.
func one(field int) Operands {
	o, all := Operands{}, full()
	switch field {
	case Var:
		o.Var = all.Var
	case Array:
		o.Array = all.Array
	case Proc:
		o.Proc = all.Proc
	case Index:
		o.Index = all.Index
	case Expr:
		o.Expr = all.Expr
	case Cond:
		o.Cond = all.Cond
	case Args:
		o.Args = all.Args
	case Results:
		o.Results = all.Results
	}
	return o
}

func TestOf(t *testing.T) {
	o := full()
	s := api.Stmt{Op: 9, At: 8, Var: o.Var, Array: o.Array, Proc: o.Proc, Index: o.Index, Expr: o.Expr, Cond: o.Cond, Args: o.Args, Results: o.Results, Body: make([]api.Stmt, 1), Else: make([]api.Stmt, 2)}
	want(t, "OfStatement", OfStatement(s), o)
	c := api.Command{Op: 6, At: 5, Check: 4, Var: o.Var, Array: o.Array, Proc: o.Proc, Index: o.Index, Expr: o.Expr, Cond: o.Cond, Args: o.Args, Results: o.Results}
	want(t, "OfCommand", OfCommand(c), o)
	c.Check = 0
	want(t, "Command", o.Command(6, 5), c)
}

// TestUnused has one field that is not used, of operands that may have any others.
func TestUnused(t *testing.T) {
	for field := Var; field <= Results; field <<= 1 {
		proc := api.Proc{}
		want(t, fmt.Sprint("Check of field ", field), one(field).Check(0, nil, proc), api.ErrForm)
		want(t, fmt.Sprint("Check of field ", field), one(field).Check(0xff&^field, nil, proc), api.ErrForm)
		want(t, fmt.Sprint("filled of field ", field), one(field).filled(), field)
	}
	want(t, "filled", full().filled(), 0xff)
	want(t, "filled", Operands{}.filled(), 0)
	want(t, "Check", Operands{}.Check(0, nil, api.Proc{}), api.OK)
}

func TestCheck(t *testing.T) {
	proc := api.Proc{Params: 1, Vars: []string{"a", "b", "c"}, Arrays: make([]api.Array, 2)}
	procs := []api.Proc{proc, {Params: 2, Results: 2, Vars: make([]string, 4)}}
	call := func(args []api.Expr, results ...int) Operands { return Operands{Proc: 1, Args: args, Results: results} }
	two := []api.Expr{variable(2), num("1")}
	const isCall = Proc | Args | Results
	for i, c := range []struct {
		o    Operands
		used int
		e    api.Errno
	}{
		{Operands{Var: 1}, Var, api.OK}, {Operands{Var: 2}, Var, api.OK}, {Operands{Var: 3}, Var, api.ErrNone}, {Operands{Var: -1}, Var, api.ErrNone}, {Operands{}, Var, api.ErrUse},
		{Operands{}, Array, api.OK}, {Operands{Array: 1}, Array, api.OK}, {Operands{Array: 2}, Array, api.ErrNone}, {Operands{Array: -1}, Array, api.ErrNone}, {Operands{Array: 2}, Var | Array, api.ErrUse}, {Operands{Array: 2, Index: num("x")}, Array | Index, api.ErrNone},
		{Operands{Index: variable(2)}, Index, api.OK}, {Operands{Index: variable(3)}, Index, api.ErrNone}, {Operands{}, Index, api.ErrForm}, {Operands{Index: node(9), Expr: variable(3)}, Index | Expr, api.ErrArg}, {Operands{Index: num("1"), Expr: variable(3)}, Index | Expr, api.ErrNone}, {Operands{Expr: variable(2)}, Expr, api.OK}, {Operands{Expr: variable(3), Cond: api.Cond{Op: 9}}, Expr | Cond, api.ErrNone},
		{Operands{}, Cond, api.OK}, {Operands{Cond: less(num("1"), variable(2))}, Cond, api.OK}, {Operands{Cond: less(num("1"), variable(3))}, Cond, api.ErrNone}, {Operands{Cond: api.Cond{Op: 9}, Proc: -1}, Cond | Proc, api.ErrArg},
		{call(two, 1, 2), isCall, api.OK}, {call(two, 2, 1), isCall, api.OK}, {Operands{Proc: 2}, isCall, api.ErrNone}, {Operands{Proc: -1}, isCall, api.ErrNone}, {call(two[:1], 1), isCall, api.ErrShape}, {call([]api.Expr{num("x"), num("1")}, 1), isCall, api.ErrForm}, {call([]api.Expr{num("1"), variable(3)}, 1), isCall, api.ErrNone}, {call(two, 1), isCall, api.ErrShape}, {call(two, 1, 2, 2), isCall, api.ErrShape}, {call(two, 0, 3), isCall, api.ErrUse}, {call(two, 3, 0), isCall, api.ErrNone}, {call(two, 2, 2), isCall, api.ErrTwice}, {call(two, -1, -1), isCall, api.ErrNone},
	} {
		want(t, fmt.Sprint("Check ", i), c.o.Check(c.used, procs, proc), c.e)
	}
}

func TestDivisors(t *testing.T) {
	by := func(i int) api.Expr { return node(api.ExprDiv, num("1"), variable(i)) }
	o := Operands{Index: node(api.ExprMod, by(0), num("2")), Expr: node(api.ExprAdd, by(1), by(2)), Cond: less(by(3), by(4)), Args: []api.Expr{by(5), num("1"), by(6)}}
	var wanted []api.Expr
	for i := range 7 {
		wanted = append(wanted, variable(i))
	}
	want(t, "Divisors", o.Divisors(7), wanted)
	want(t, "Divisors", Operands{}.Divisors(7), []api.Expr(nil))
	want(t, "Divisors", Operands{Cond: less(by(3), by(4))}.Divisors(7), wanted[3:5])
}

func TestSame(t *testing.T) {
	all := []Operands{{}, full()}
	for field := Var; field <= Results; field <<= 1 {
		all = append(all, one(field))
	}
	for _, change := range []func(o *Operands){
		func(o *Operands) { o.Var = 7 }, func(o *Operands) { o.Array = 7 }, func(o *Operands) { o.Proc = 7 }, func(o *Operands) { o.Index.Op = 7 }, func(o *Operands) { o.Expr.Args[1].Args[0].Var = 7 }, func(o *Operands) { o.Cond.Args[1].Op = 7 }, func(o *Operands) { o.Args[1].Args[1].Num = "7" }, func(o *Operands) { o.Args = o.Args[:1] }, func(o *Operands) { o.Results[1] = 7 }, func(o *Operands) { o.Results = o.Results[:1] },
	} {
		o := full()
		change(&o)
		all = append(all, o)
	}
	for i, a := range all {
		for j, b := range all {
			want(t, fmt.Sprint("Same ", i, " ", j), Same(a, b), i == j)
		}
		want(t, "Same", Same(a, a.Clone()), true)
	}
	want(t, "Same", Same(Operands{Args: []api.Expr{}, Results: []int{}}, Operands{}), true)
}

func TestClone(t *testing.T) {
	o := full()
	clone := o.Clone()
	if !reflect.DeepEqual(o, clone) {
		t.Errorf("Clone: got %+v, want %+v", clone, o)
	}
	clone.Index.Args[0].Var = 7
	clone.Expr.Args[1].Args[0].Var = 7
	clone.Cond.Args[0].Exprs[0].Args[0].Var = 7
	clone.Cond.Args[1].Op = 7
	clone.Args[0].Var, clone.Args[1].Args[0].Var = 7, 7
	clone.Results[0] = 7
	want(t, "the operands", o, full())
	want(t, "CloneExpr", CloneExpr(o.Expr), o.Expr)
	want(t, "CloneCond", CloneCond(o.Cond), o.Cond)
}
