package expr

import (
	"fmt"
	"math/rand"
	"strings"
	"testing"

	"surveyor/api"
)

// deep returns an expression of a depth, of ExprNeg.
func deep(depth int) api.Expr {
	x := num("1")
	for range depth - 1 {
		x = node(api.ExprNeg, x)
	}
	return x
}

// wide returns a sum with a number of nodes (an odd one) that is no deeper than it has to be.
func wide(nodes int) api.Expr {
	if nodes == 1 {
		return variable(0)
	}
	half := (nodes - 1) / 2
	half -= 1 - half%2
	return node(api.ExprAdd, wide(half), wide(nodes-1-half))
}

var (
	x, y  = variable(0), variable(1)
	nines = api.Int(strings.Repeat("9", 100))
	huge  = nines + "9"
)

func TestP12_1Examples(t *testing.T) {
	e := node(api.ExprSub, node(api.ExprDiv, x, num("2")), node(api.ExprMod, y, num("3")))
	v, fault := Eval(e, []api.Int{"-7", "-4"})
	want(t, "Eval", v, "-6", fault, api.OK)
	v, fault = Eval(node(api.ExprDiv, x, y), []api.Int{"-7", "0"})
	want(t, "Eval", v, "", fault, api.ErrZero)
}

func TestP12_1Check(t *testing.T) {
	for i, c := range []struct {
		x api.Expr
		n int
		e api.Errno
	}{
		{num("0"), 0, api.OK}, {num("0"), 12, api.OK}, {num("0"), 13, api.ErrRange}, {num("0"), -1, api.ErrRange}, {api.Expr{Op: -1}, 13, api.ErrRange}, {wide(65), -1, api.ErrRange},
		{wide(63), 1, api.OK}, {node(api.ExprNeg, wide(63)), 1, api.OK}, {wide(65), 1, api.ErrMany}, {wide(65), 0, api.ErrMany}, {deep(64), 0, api.ErrDeep}, {deep(65), 0, api.ErrMany}, {deep(16), 0, api.OK}, {deep(17), 0, api.ErrDeep}, {node(api.ExprAdd, x, deep(15)), 1, api.OK}, {node(api.ExprAdd, x, deep(16)), 1, api.ErrDeep}, {node(api.ExprAdd, deep(16), x), 0, api.ErrDeep}, {node(99, deep(16)), 0, api.ErrDeep}, {node(99, wide(65)), 0, api.ErrMany}, {api.Expr{Args: make([]api.Expr, 64)}, 0, api.ErrMany}, {api.Expr{Args: make([]api.Expr, 63)}, 0, api.ErrShape},
		{api.Expr{Op: -1}, 0, api.ErrArg}, {api.Expr{Op: 8}, 0, api.ErrArg}, {api.Expr{Op: 1 << 40, Num: "x", Var: 5}, 0, api.ErrArg}, {api.Expr{Op: -1 << 63, Args: []api.Expr{x}}, 0, api.ErrArg},
		{node(api.ExprNum, x), 1, api.ErrShape}, {node(api.ExprVar, x), 1, api.ErrShape}, {node(api.ExprNeg), 1, api.ErrShape}, {node(api.ExprNeg, x, x), 1, api.ErrShape}, {node(api.ExprAdd), 1, api.ErrShape}, {node(api.ExprAdd, x), 1, api.ErrShape}, {node(api.ExprAdd, x, x, x), 1, api.ErrShape}, {node(api.ExprSub, x), 1, api.ErrShape}, {node(api.ExprMul, x), 1, api.ErrShape}, {node(api.ExprDiv, x), 1, api.ErrShape}, {node(api.ExprMod, x), 1, api.ErrShape}, {api.Expr{Op: api.ExprNeg, Num: "x", Var: -1}, 1, api.ErrShape}, {api.Expr{Args: []api.Expr{x}, Num: "x"}, 1, api.ErrShape},
		{num(""), 0, api.ErrForm}, {num("-0"), 0, api.ErrForm}, {num("01"), 0, api.ErrForm}, {num("+1"), 0, api.ErrForm}, {num("1/2"), 0, api.ErrForm}, {num("0" + huge), 0, api.ErrForm}, {num(nines), 0, api.OK}, {num("-" + nines), 0, api.OK}, {num(huge), 0, api.ErrLarge}, {num("-" + huge), 0, api.ErrLarge}, {num(api.Int(strings.Repeat("9", 5000))), 0, api.ErrLarge}, {api.Expr{Num: "x", Var: 1}, 0, api.ErrForm}, {api.Expr{Num: huge, Var: 1}, 0, api.ErrLarge}, {api.Expr{Num: "1", Var: 1}, 2, api.ErrForm}, {api.Expr{Num: "1", Var: -1}, 2, api.ErrForm},
		{api.Expr{Op: api.ExprVar, Num: "0"}, 1, api.ErrForm}, {api.Expr{Op: api.ExprVar, Num: "1", Var: 1}, 1, api.ErrForm}, {api.Expr{Op: api.ExprNeg, Num: "1", Args: []api.Expr{x}}, 1, api.ErrForm}, {api.Expr{Op: api.ExprNeg, Var: 1, Args: []api.Expr{x}}, 2, api.ErrForm}, {api.Expr{Op: api.ExprAdd, Var: 1, Args: []api.Expr{x, x}}, 2, api.ErrForm}, {api.Expr{Op: api.ExprMod, Num: "1", Var: 1, Args: []api.Expr{x, x}}, 2, api.ErrForm},
		{x, 0, api.ErrNone}, {x, 1, api.OK}, {y, 1, api.ErrNone}, {variable(11), 12, api.OK}, {variable(12), 12, api.ErrNone}, {variable(-1), 12, api.ErrNone},
		{node(api.ExprAdd, y, num("x")), 1, api.ErrNone}, {node(api.ExprAdd, num("x"), y), 1, api.ErrForm}, {api.Expr{Op: api.ExprNeg, Var: 1, Args: []api.Expr{y}}, 1, api.ErrForm}, {node(api.ExprAdd, node(api.ExprNeg, num(huge)), node(99)), 1, api.ErrLarge}, {node(api.ExprAdd, node(99, num(huge)), y), 1, api.ErrArg}, {node(api.ExprAdd, node(api.ExprNeg), node(99)), 1, api.ErrShape},
	} {
		want(t, fmt.Sprint("Check ", i), Check(c.x, c.n), c.e, referenceCheck(c.x, c.n), c.e)
	}
}

// functions are those that return the error of Check first: with the number of variables that an expression is over.
var functions = []struct {
	name string
	call func(e api.Expr, n int) (any, any, api.Errno) // the result, and the zero value
}{
	{"Eval", func(e api.Expr, n int) (any, any, api.Errno) {
		v, fault := Eval(e, make([]api.Int, max(n, 0)))
		return v, api.Int(""), fault
	}},
	{"Vars", func(e api.Expr, n int) (any, any, api.Errno) { v, fault := Vars(e, n); return v, 0, fault }},
	{"Fold", func(e api.Expr, n int) (any, any, api.Errno) { v, fault := Fold(e, n); return v, zero, fault }},
	{"Linear", func(e api.Expr, n int) (any, any, api.Errno) {
		v, ok, fault := Linear(e, n)
		return fmt.Sprint(v, ok), fmt.Sprint(api.Linear{}, false), fault
	}},
	{"Divisors", func(e api.Expr, n int) (any, any, api.Errno) {
		v, fault := Divisors(e, n)
		return v, []api.Expr(nil), fault
	}},
	{"Substitute", func(e api.Expr, n int) (any, any, api.Errno) {
		v, fault := Substitute(e, n, -1, api.Expr{Op: -1})
		return v, zero, fault
	}},
	{"Rename", func(e api.Expr, n int) (any, any, api.Errno) {
		v, fault := Rename(e, make([]int, max(n, 0)), -1)
		return v, zero, fault
	}},
	{"Format", func(e api.Expr, n int) (any, any, api.Errno) {
		v, fault := Format(e, make([]string, max(n, 0)))
		return v, "", fault
	}},
}

// TestFirstErrors has expressions with errors (P12.1, P12.2), for all functions, also where other arguments have errors.
func TestFirstErrors(t *testing.T) {
	for i, c := range []struct {
		x api.Expr
		n int
		e api.Errno
	}{
		{num("1"), 13, api.ErrRange}, {num("1"), 1 << 20, api.ErrRange}, {wide(65), 1, api.ErrMany}, {deep(17), 2, api.ErrDeep}, {node(8), 2, api.ErrArg}, {node(api.ExprNeg), 2, api.ErrShape}, {num("-0"), 2, api.ErrForm}, {num(huge), 2, api.ErrLarge}, {variable(2), 2, api.ErrNone}, {variable(-1), 2, api.ErrNone}, {x, 0, api.ErrNone},
	} {
		for _, f := range functions {
			got, wanted, fault := f.call(c.x, c.n)
			want(t, fmt.Sprint(f.name, " ", i), got, wanted, fault, c.e)
		}
	}
	for _, f := range functions {
		if f.name != "Eval" && f.name != "Rename" && f.name != "Format" {
			got, wanted, fault := f.call(num("x"), -1)
			want(t, f.name, got, wanted, fault, api.ErrRange)
		}
	}
}

// mutate makes some node of an expression a wrong one.
func mutate(r *rand.Rand, e *api.Expr) {
	for len(e.Args) > 0 && r.Intn(3) > 0 {
		e = &e.Args[r.Intn(len(e.Args))]
	}
	switch r.Intn(6) {
	case 0:
		e.Op = r.Intn(12) - 2
	case 1:
		e.Num = []api.Int{"", "1", "-0", "x", huge, nines}[r.Intn(6)]
	case 2:
		e.Var = r.Intn(5) - 1
	case 3:
		e.Args = append(e.Args, random(r, 2, r.Intn(4)))
	case 4:
		e.Args = e.Args[:len(e.Args)/2]
	case 5:
		e.Args = []api.Expr{copied(*e), copied(*e)}
	}
}

func TestP12_1Random(t *testing.T) {
	r := rand.New(rand.NewSource(1))
	counts := map[api.Errno]int{}
	for range 30000 {
		n := r.Intn(4)
		e := random(r, max(n, 1), 1+r.Intn(7))
		for range r.Intn(4) {
			mutate(r, &e)
		}
		fault := referenceCheck(e, n)
		counts[fault]++
		want(t, fmt.Sprintf("%+v, %d", e, n), Check(e, n), fault, 0, 0)
		nodes, depth := Size(e)
		want(t, fmt.Sprintf("Size of %+v", e), []int{nodes, depth}, []int{len(list(e)), depthOf(e)}, 0, 0)
		other := copied(e)
		want(t, fmt.Sprintf("Same of %+v", e), Same(e, other), true, 0, 0)
		mutate(r, &other)
		want(t, fmt.Sprintf("Same of %+v and %+v", e, other), Same(e, other), isEqual(e, other), 0, 0)
		want(t, fmt.Sprintf("Same of %+v and %+v", other, e), Same(other, e), isEqual(e, other), 0, 0)
	}
	for _, fault := range []api.Errno{api.OK, api.ErrMany, api.ErrArg, api.ErrShape, api.ErrForm, api.ErrLarge, api.ErrNone} {
		if counts[fault] < 100 {
			t.Errorf("only %d expressions have the error %d", counts[fault], fault)
		}
	}
}

func TestP12_1Size(t *testing.T) {
	for i, c := range []struct {
		x            api.Expr
		nodes, depth int
	}{
		{zero, 1, 1}, {x, 1, 1}, {deep(2), 2, 2}, {deep(100), 100, 100}, {wide(99), 99, 7}, {node(api.ExprAdd, deep(3), deep(5)), 9, 6}, {node(api.ExprAdd, deep(5), deep(3)), 9, 6}, {node(-5, x, x, x), 4, 2}, {api.Expr{Op: api.ExprVar, Num: "x", Args: []api.Expr{{Args: []api.Expr{}}}}, 2, 2},
	} {
		nodes, depth := Size(c.x)
		want(t, fmt.Sprint("Size ", i), []int{nodes, depth}, []int{c.nodes, c.depth}, 0, 0)
	}
}

func TestP12_1Same(t *testing.T) {
	all := []api.Expr{
		zero, num("0"), num("1"), num("-0"), x, y, {Op: api.ExprVar, Num: "0"}, {Var: 1}, node(api.ExprNeg), node(api.ExprNeg, x), node(api.ExprNeg, y), node(api.ExprAdd, x, y), node(api.ExprAdd, y, x), node(api.ExprSub, x, y), node(api.ExprAdd, x), node(api.ExprAdd, x, y, x), node(99, x, y),
		node(api.ExprAdd, node(api.ExprNeg, x), y), node(api.ExprAdd, x, node(api.ExprNeg, y)), node(api.ExprNeg, node(api.ExprAdd, x, y)), deep(100), deep(101), wide(99), wide(101), node(api.ExprAdd, node(api.ExprAdd, x), y, x), node(api.ExprAdd, node(api.ExprAdd, x, y), x), node(api.ExprAdd, node(api.ExprAdd, x, y, x)),
	}
	for i, a := range all {
		for j, b := range all {
			want(t, fmt.Sprint("Same ", i, " ", j), Same(a, copied(b)), i == j, 0, 0)
		}
	}
	want(t, "Same", Same(x, api.Expr{Op: api.ExprVar, Args: []api.Expr{}}), true, 0, 0)
}

func TestP12_1Eval(t *testing.T) {
	minus := api.Int("-" + nines)
	half := api.Int("1" + strings.Repeat("0", 50))
	for i, c := range []struct {
		e     api.Expr
		vars  []api.Int
		value api.Int
		fault api.Errno
	}{
		{num("5"), nil, "5", api.OK}, {num("-5"), []api.Int{"1"}, "-5", api.OK}, {y, []api.Int{"1", "-2"}, "-2", api.OK}, {node(api.ExprNeg, x), []api.Int{"3"}, "-3", api.OK}, {node(api.ExprNeg, x), []api.Int{"0"}, "0", api.OK},
		{node(api.ExprAdd, x, y), []api.Int{"3", "-5"}, "-2", api.OK}, {node(api.ExprSub, x, y), []api.Int{"3", "-5"}, "8", api.OK}, {node(api.ExprMul, x, y), []api.Int{"3", "-5"}, "-15", api.OK}, {node(api.ExprDiv, x, y), []api.Int{"7", "2"}, "3", api.OK}, {node(api.ExprDiv, x, y), []api.Int{"-7", "2"}, "-4", api.OK}, {node(api.ExprDiv, x, y), []api.Int{"7", "-2"}, "-4", api.OK}, {node(api.ExprDiv, x, y), []api.Int{"-7", "-2"}, "3", api.OK}, {node(api.ExprMod, x, y), []api.Int{"7", "2"}, "1", api.OK}, {node(api.ExprMod, x, y), []api.Int{"-7", "2"}, "1", api.OK}, {node(api.ExprMod, x, y), []api.Int{"7", "-2"}, "-1", api.OK}, {node(api.ExprMod, x, y), []api.Int{"-7", "-2"}, "-1", api.OK}, {node(api.ExprMod, x, y), []api.Int{"6", "-2"}, "0", api.OK},
		{node(api.ExprDiv, x, y), []api.Int{"1", "0"}, "", api.ErrZero}, {node(api.ExprMod, x, y), []api.Int{"0", "0"}, "", api.ErrZero}, {node(api.ExprMul, num("0"), node(api.ExprDiv, x, y)), []api.Int{"1", "0"}, "", api.ErrZero},
		{node(api.ExprAdd, x, num("1")), []api.Int{nines}, "", api.ErrLarge}, {node(api.ExprAdd, x, num("1")), []api.Int{minus}, api.Int("-" + strings.Repeat("9", 99) + "8"), api.OK}, {node(api.ExprSub, x, num("1")), []api.Int{minus}, "", api.ErrLarge}, {node(api.ExprSub, x, num("1")), []api.Int{nines}, api.Int(strings.Repeat("9", 99) + "8"), api.OK}, {node(api.ExprMul, x, y), []api.Int{nines, "-1"}, minus, api.OK}, {node(api.ExprMul, x, x), []api.Int{half}, "", api.ErrLarge}, {node(api.ExprMul, x, x), []api.Int{half[:50]}, half[:50] + half[1:50], api.OK}, {node(api.ExprNeg, x), []api.Int{nines}, minus, api.OK}, {node(api.ExprDiv, x, num("-1")), []api.Int{minus}, nines, api.OK}, {node(api.ExprMod, num("-1"), x), []api.Int{nines}, api.Int(strings.Repeat("9", 99) + "8"), api.OK}, {node(api.ExprSub, node(api.ExprAdd, x, num("1")), num("1")), []api.Int{nines}, "", api.ErrLarge},
		// The first error in postorder counts.
		{node(api.ExprAdd, node(api.ExprDiv, x, num("0")), node(api.ExprMul, x, x)), []api.Int{nines}, "", api.ErrZero}, {node(api.ExprAdd, node(api.ExprMul, x, x), node(api.ExprDiv, x, num("0"))), []api.Int{nines}, "", api.ErrLarge}, {node(api.ExprDiv, node(api.ExprMul, x, x), num("0")), []api.Int{nines}, "", api.ErrLarge}, {node(api.ExprMod, num("1"), node(api.ExprMul, x, x)), []api.Int{nines}, "", api.ErrLarge}, {node(api.ExprMul, node(api.ExprMod, x, num("0")), node(api.ExprMul, x, x)), []api.Int{nines}, "", api.ErrZero},
		// Values of variables, also of those that do not occur.
		{num("1"), []api.Int{"x"}, "", api.ErrForm}, {num("1"), []api.Int{"1", ""}, "", api.ErrForm}, {num("1"), []api.Int{"-0"}, "", api.ErrForm}, {num("1"), []api.Int{huge}, "", api.ErrLarge}, {num("1"), []api.Int{huge, "x"}, "", api.ErrLarge}, {num("1"), []api.Int{"x", huge}, "", api.ErrForm}, {num("1"), []api.Int{api.Int(strings.Repeat("9", 5000))}, "", api.ErrLarge}, {num("1"), []api.Int{"0" + huge}, "", api.ErrForm}, {node(api.ExprDiv, x, num("0")), []api.Int{"1", "x"}, "", api.ErrForm}, {num("1"), make([]api.Int, 12), "", api.ErrForm}, {num("1"), make([]api.Int, 13), "", api.ErrRange}, {variable(2), []api.Int{"x", "x"}, "", api.ErrNone},
		{variable(11), strings12(), "11", api.OK},
	} {
		v, fault := Eval(c.e, c.vars)
		want(t, fmt.Sprint("Eval ", i), v, c.value, fault, c.fault)
	}
	r := rand.New(rand.NewSource(2))
	counts := map[api.Errno]int{}
	for range 20000 {
		n := 1 + r.Intn(3)
		e, values := randomFormed(r, n), randomValues(r, n)
		wanted := referenceEval(e, values)
		v, fault := Eval(e, values)
		want(t, fmt.Sprintf("Eval of %+v with %v", e, values), v, wanted.text(), fault, wanted.e)
		counts[fault]++
	}
	for _, fault := range []api.Errno{api.OK, api.ErrZero, api.ErrLarge} {
		if counts[fault] < 100 {
			t.Errorf("only %d values have the error %d", counts[fault], fault)
		}
	}
}

// strings12 returns the numbers 0 to 11.
func strings12() []api.Int {
	var out []api.Int
	for i := range 12 {
		out = append(out, api.Int(fmt.Sprint(i)))
	}
	return out
}

func TestP12_1Vars(t *testing.T) {
	for i, c := range []struct {
		e    api.Expr
		n    int
		mask int
	}{{num("3"), 0, 0}, {num("3"), 12, 0}, {x, 1, 1}, {y, 3, 2}, {variable(11), 12, 2048}, {node(api.ExprAdd, x, x), 2, 1}, {node(api.ExprMul, node(api.ExprNeg, variable(3)), node(api.ExprMod, x, num("1"))), 4, 9}, {node(api.ExprMul, num("0"), y), 2, 2}} {
		mask, fault := Vars(c.e, c.n)
		want(t, fmt.Sprint("Vars ", i), mask, c.mask, fault, api.OK)
	}
	r := rand.New(rand.NewSource(3))
	for range 3000 {
		e, mask := randomFormed(r, 5), 0
		for _, part := range list(e) {
			if part.Op == api.ExprVar {
				mask |= 1 << part.Var
			}
		}
		got, fault := Vars(e, 5)
		want(t, fmt.Sprintf("Vars of %+v", e), got, mask, fault, api.OK)
	}
}

// TestSizes has expressions of sizes that only Check, Size and Same take, and others refuse (P1).
func TestSizes(t *testing.T) {
	const size = 1000000
	for _, long := range []api.Expr{deep(size), {Op: api.ExprAdd, Args: make([]api.Expr, size-1)}, node(api.ExprAdd, num("1"), deep(size-2)), node(api.ExprAdd, deep(size-2), num("1"))} {
		nodes, _ := Size(long)
		want(t, "Size", nodes, size, Check(long, 0), api.ErrMany)
		want(t, "Same", Same(long, node(api.ExprNeg, long)), false, 0, 0)
		want(t, "Same", Same(long, long), true, 0, 0)
		for _, f := range functions {
			got, wanted, fault := f.call(long, 2)
			want(t, f.name, got, wanted, fault, api.ErrMany)
		}
		_, fault := Substitute(x, 1, 0, long)
		want(t, "Substitute", fault, api.ErrMany, 0, 0)
	}
	_, depth := Size(deep(size))
	want(t, "Size", depth, size, 0, 0)
	// A node below itself makes an expression without an end.
	endless := []api.Expr{{Op: api.ExprNeg}}
	endless[0].Args = endless
	want(t, "Check", Check(endless[0], 0), api.ErrMany, 0, 0)
}
