package cond

import (
	"fmt"
	"math/rand"
	"reflect"
	"strings"
	"testing"

	"surveyor/api"
	"surveyor/expr"
)

var (
	yes, no = api.Cond{Op: api.CondTrue}, api.Cond{Op: api.CondFalse}
	less01  = comparison(api.CondLt, x, y)
)

// deep returns a condition of a depth, of CondNot.
func deep(depth int) api.Cond {
	c := yes
	for range depth - 1 {
		c = connection(api.CondNot, c)
	}
	return c
}

// deepExpr returns an expression of a depth, of ExprNeg.
func deepExpr(depth int) api.Expr {
	e := num("1")
	for range depth - 1 {
		e = node(api.ExprNeg, e)
	}
	return e
}

// wide returns a condition with an odd number of nodes that is no deeper than it has to be.
func wide(nodes int) api.Cond {
	if nodes == 1 {
		return yes
	}
	half := (nodes - 1) / 2
	half -= 1 - half%2
	return connection(api.CondOr, wide(half), wide(nodes-1-half))
}

// wideExpr returns a sum with an odd number of nodes.
func wideExpr(nodes int) api.Expr {
	if nodes == 1 {
		return x
	}
	half := (nodes - 1) / 2
	half -= 1 - half%2
	return node(api.ExprAdd, wideExpr(half), wideExpr(nodes-1-half))
}

func TestP13_1Examples(t *testing.T) {
	c := read(t, "x / y = 1 or true")
	holds, e := Eval(c, []api.Int{"5", "0", "0"})
	want(t, "Eval", holds, false, e, api.ErrZero)
	divisors, e := Divisors(c, 2)
	want(t, "Divisors", divisors, []api.Expr{y}, e, api.OK)
}

func TestP13_1Check(t *testing.T) {
	equal := func(a, b api.Expr) api.Cond { return comparison(api.CondEq, a, b) }
	for i, c := range []struct {
		c api.Cond
		n int
		e api.Errno
	}{
		{yes, 0, api.OK}, {no, 12, api.OK}, {yes, 13, api.ErrRange}, {yes, -1, api.ErrRange}, {api.Cond{Op: -1}, 13, api.ErrRange}, {wide(65), -1, api.ErrRange}, {deep(17), 1 << 40, api.ErrRange},
		// The number of nodes.
		{wide(63), 0, api.OK}, {connection(api.CondNot, wide(63)), 0, api.OK}, {wide(65), 0, api.ErrMany}, {deep(64), 0, api.ErrDeep}, {deep(65), 0, api.ErrMany}, {equal(wideExpr(31), node(api.ExprNeg, wideExpr(31))), 1, api.OK}, {equal(wideExpr(31), wideExpr(33)), 1, api.ErrMany}, {equal(wideExpr(33), wideExpr(31)), 1, api.ErrMany}, {equal(wideExpr(61), x), 1, api.OK}, {equal(wideExpr(63), x), 1, api.ErrMany}, {equal(x, wideExpr(63)), 1, api.ErrMany}, {equal(x, wideExpr(65)), 1, api.ErrMany},
		{connection(api.CondAnd, equal(wideExpr(29), x), equal(wideExpr(31), x)), 1, api.ErrMany}, {connection(api.CondAnd, equal(wideExpr(29), x), equal(wideExpr(29), node(api.ExprNeg, x))), 1, api.OK}, {connection(api.CondNot, equal(wideExpr(61), x)), 1, api.OK}, {connection(api.CondNot, equal(wideExpr(61), node(api.ExprNeg, x))), 1, api.ErrMany},
		{api.Cond{Args: make([]api.Cond, 63)}, 0, api.ErrShape}, {api.Cond{Args: make([]api.Cond, 64)}, 0, api.ErrMany}, {api.Cond{Exprs: make([]api.Expr, 63)}, 0, api.ErrShape}, {api.Cond{Exprs: make([]api.Expr, 64)}, 0, api.ErrMany}, {api.Cond{Op: 9, Exprs: []api.Expr{node(api.ExprNeg, wideExpr(63))}}, 0, api.ErrMany}, {api.Cond{Op: 9, Exprs: []api.Expr{wideExpr(63)}}, 0, api.ErrArg}, {api.Cond{Op: 9, Args: []api.Cond{wide(65)}}, 0, api.ErrMany},
		// The depth: that of expressions does not matter, but to these.
		{deep(16), 0, api.OK}, {deep(17), 0, api.ErrDeep}, {connection(api.CondAnd, deep(15), deep(2)), 0, api.OK}, {connection(api.CondAnd, deep(2), deep(16)), 0, api.ErrDeep}, {connection(api.CondAnd, deep(16), deep(2)), 0, api.ErrDeep}, {connection(9, deep(16)), 0, api.ErrDeep}, {equal(deepExpr(16), deepExpr(16)), 0, api.OK}, {equal(deepExpr(16), deepExpr(17)), 0, api.ErrDeep}, {equal(deepExpr(17), num("x")), 0, api.ErrDeep}, {equal(num("x"), deepExpr(17)), 0, api.ErrForm}, {connection(api.CondAnd, connection(api.CondNot), equal(deepExpr(17), x)), 1, api.ErrShape}, {connection(api.CondAnd, connection(api.CondAnd, equal(deepExpr(17), x), connection(api.CondNot)), yes), 1, api.ErrDeep},
		// Operations.
		{api.Cond{Op: -1}, 0, api.ErrArg}, {api.Cond{Op: 9}, 0, api.ErrArg}, {api.Cond{Op: 1 << 40, Exprs: []api.Expr{num("x")}}, 0, api.ErrArg}, {api.Cond{Op: -1 << 63, Args: []api.Cond{yes}}, 0, api.ErrArg},
		// The numbers of expressions and operands.
		{comparison(api.CondTrue, x), 1, api.ErrShape}, {comparison(api.CondFalse, x, x), 1, api.ErrShape}, {connection(api.CondTrue, yes), 1, api.ErrShape}, {connection(api.CondFalse, yes, yes), 1, api.ErrShape}, {comparison(api.CondNot, x), 1, api.ErrShape}, {comparison(api.CondAnd, x, x), 1, api.ErrShape}, {comparison(api.CondOr, x, x), 1, api.ErrShape},
		{api.Cond{Op: api.CondNot, Exprs: []api.Expr{x}, Args: []api.Cond{yes}}, 1, api.ErrShape}, {api.Cond{Op: api.CondAnd, Exprs: []api.Expr{x, x}, Args: []api.Cond{yes, yes}}, 1, api.ErrShape}, {api.Cond{Op: api.CondEq, Exprs: []api.Expr{x, x}, Args: []api.Cond{yes}}, 1, api.ErrShape}, {api.Cond{Op: api.CondEq, Exprs: []api.Expr{}, Args: []api.Cond{yes, yes}}, 1, api.ErrShape},
		{connection(api.CondNot), 0, api.ErrShape}, {connection(api.CondNot, yes, yes), 0, api.ErrShape}, {connection(api.CondAnd), 0, api.ErrShape}, {connection(api.CondAnd, yes), 0, api.ErrShape}, {connection(api.CondAnd, yes, yes, yes), 0, api.ErrShape}, {connection(api.CondOr, yes), 0, api.ErrShape}, {connection(api.CondOr, yes, yes, yes), 0, api.ErrShape},
		{comparison(api.CondEq), 1, api.ErrShape}, {comparison(api.CondEq, x), 1, api.ErrShape}, {comparison(api.CondEq, x, x, x), 1, api.ErrShape}, {comparison(api.CondNe, num("x")), 1, api.ErrShape}, {comparison(api.CondLt, x), 1, api.ErrShape}, {comparison(api.CondLe, x, x, x), 1, api.ErrShape}, {api.Cond{Op: api.CondTrue, Exprs: []api.Expr{}, Args: []api.Cond{}}, 0, api.OK},
		// Expressions.
		{equal(x, y), 2, api.OK}, {equal(x, y), 1, api.ErrNone}, {equal(x, x), 0, api.ErrNone}, {equal(num("01"), y), 1, api.ErrForm}, {equal(y, num("01")), 1, api.ErrNone}, {equal(num(huge), y), 1, api.ErrLarge}, {equal(node(8), num("x")), 1, api.ErrArg}, {equal(node(api.ExprNeg), num("x")), 1, api.ErrShape}, {comparison(api.CondLe, variable(11), x), 12, api.OK}, {comparison(api.CondLe, x, variable(12)), 12, api.ErrNone},
		// The first node with an error.
		{connection(api.CondAnd, connection(api.CondNot, equal(x, y)), api.Cond{Op: 9}), 1, api.ErrNone}, {connection(api.CondAnd, connection(api.CondNot, api.Cond{Op: 9}), equal(x, y)), 1, api.ErrArg}, {connection(api.CondOr, connection(api.CondNot), api.Cond{Op: 9}), 1, api.ErrShape}, {connection(9, connection(api.CondNot)), 1, api.ErrArg}, {connection(api.CondNot, yes, connection(9)), 1, api.ErrShape}, {api.Cond{Op: api.CondEq, Exprs: []api.Expr{x, y}, Args: []api.Cond{{Op: 9}}}, 1, api.ErrShape},
	} {
		want(t, fmt.Sprint("Check ", i), Check(c.c, c.n), c.e, referenceCheck(c.c, c.n), c.e)
	}
}

// functions are those that return the error of Check first: with the number of variables that a condition is over.
var functions = []struct {
	name string
	call func(c api.Cond, n int) (any, any, api.Errno) // the result, and the zero value
}{
	{"Eval", func(c api.Cond, n int) (any, any, api.Errno) {
		v, e := Eval(c, make([]api.Int, max(n, 0)))
		return v, false, e
	}},
	{"Vars", func(c api.Cond, n int) (any, any, api.Errno) { v, e := Vars(c, n); return v, 0, e }},
	{"Divisors", func(c api.Cond, n int) (any, any, api.Errno) { v, e := Divisors(c, n); return len(v), 0, e }},
	{"Positive", func(c api.Cond, n int) (any, any, api.Errno) { v, e := Positive(c, n); return v, api.Cond{}, e }},
	{"Negate", func(c api.Cond, n int) (any, any, api.Errno) { v, e := Negate(c, n); return v, api.Cond{}, e }},
	{"Facts", func(c api.Cond, n int) (any, any, api.Errno) { v, e := Facts(c, n); return len(v), 0, e }},
	{"Normal", func(c api.Cond, n int) (any, any, api.Errno) { v, e := Normal(c, n); return len(v), 0, e }},
	{"Substitute", func(c api.Cond, n int) (any, any, api.Errno) {
		v, e := Substitute(c, n, -1, api.Expr{Op: -1})
		return v, api.Cond{}, e
	}},
	{"Replace", func(c api.Cond, n int) (any, any, api.Errno) {
		v, e := Replace(c, make([]api.Expr, max(n, 0)), -1)
		return v, api.Cond{}, e
	}},
	{"Format", func(c api.Cond, n int) (any, any, api.Errno) {
		v, e := Format(c, make([]string, max(n, 0)))
		return v, "", e
	}},
}

// TestFirstErrors has conditions with errors (P13.1, P13.2), for all functions, also where other arguments have errors.
func TestFirstErrors(t *testing.T) {
	for i, c := range []struct {
		c api.Cond
		n int
		e api.Errno
	}{
		{yes, 13, api.ErrRange}, {yes, 1 << 20, api.ErrRange}, {wide(65), 1, api.ErrMany}, {deep(17), 2, api.ErrDeep}, {connection(9), 2, api.ErrArg}, {connection(api.CondNot), 2, api.ErrShape}, {comparison(api.CondEq, x), 2, api.ErrShape}, {comparison(api.CondEq, x, num("-0")), 2, api.ErrForm}, {comparison(api.CondEq, num(huge), x), 2, api.ErrLarge}, {comparison(api.CondEq, x, z), 2, api.ErrNone}, {comparison(api.CondEq, x, x), 0, api.ErrNone},
	} {
		for _, f := range functions {
			got, wanted, fault := f.call(c.c, c.n)
			want(t, fmt.Sprint(f.name, " ", i), got, wanted, fault, c.e)
		}
	}
	for _, f := range functions {
		if f.name != "Eval" && f.name != "Replace" && f.name != "Format" {
			got, wanted, fault := f.call(connection(9), -1)
			want(t, f.name, got, wanted, fault, api.ErrRange)
		}
	}
}

// mutate makes some node of a condition a wrong one.
func mutate(r *rand.Rand, c *api.Cond) {
	for len(c.Args) > 0 && r.Intn(3) > 0 {
		c = &c.Args[r.Intn(len(c.Args))]
	}
	switch r.Intn(7) {
	case 0:
		c.Op = r.Intn(12) - 2
	case 1:
		c.Exprs = append(c.Exprs, randomExpr(r, 3, r.Intn(4)))
	case 2:
		c.Exprs = c.Exprs[:len(c.Exprs)/2]
	case 3:
		c.Args = append(c.Args, random(r, 2, r.Intn(3)))
	case 4:
		c.Args = c.Args[:len(c.Args)/2]
	case 5:
		c.Args = []api.Cond{copied(*c), copied(*c)}
	case 6:
		if len(c.Exprs) > 0 {
			c.Exprs[r.Intn(len(c.Exprs))] = []api.Expr{num("-0"), num(huge), {Num: "1", Var: 1}, node(api.ExprNeg), node(9), variable(2)}[r.Intn(6)]
		}
	}
}

func TestP13_1Random(t *testing.T) {
	r := rand.New(rand.NewSource(1))
	counts := map[api.Errno]int{}
	for range 20000 {
		n := r.Intn(4)
		c := random(r, max(n, 1), 1+r.Intn(6))
		for range r.Intn(4) {
			mutate(r, &c)
		}
		fault := referenceCheck(c, n)
		counts[fault]++
		want(t, fmt.Sprintf("%+v, %d", c, n), Check(c, n), fault, 0, 0)
		nodes, depth := Size(c)
		want(t, fmt.Sprintf("Size of %+v", c), []int{nodes, depth}, []int{countOf(c), depthOf(c)}, 0, 0)
		other := copied(c)
		want(t, fmt.Sprintf("Same of %+v", c), Same(c, other), true, 0, 0)
		mutate(r, &other)
		other = copied(other) // so that lists without elements are nil
		isEqual := reflect.DeepEqual(copied(c), other)
		want(t, fmt.Sprintf("Same of %+v and %+v", c, other), Same(c, other), isEqual, 0, 0)
		want(t, fmt.Sprintf("Same of %+v and %+v", other, c), Same(other, c), isEqual, 0, 0)
	}
	for _, fault := range []api.Errno{api.OK, api.ErrMany, api.ErrArg, api.ErrShape, api.ErrForm, api.ErrLarge, api.ErrNone} {
		if counts[fault] < 100 {
			t.Errorf("only %d conditions have the error %d", counts[fault], fault)
		}
	}
}

func TestP13_1Size(t *testing.T) {
	for i, c := range []struct {
		c            api.Cond
		nodes, depth int
	}{
		{yes, 1, 1}, {api.Cond{}, 1, 1}, {less01, 3, 1}, {comparison(api.CondLt, deepExpr(5), x), 7, 1}, {deep(2), 2, 2}, {deep(100), 100, 100}, {wide(99), 99, 7}, {connection(api.CondAnd, deep(3), deep(5)), 9, 6}, {connection(api.CondAnd, deep(5), deep(3)), 9, 6}, {connection(api.CondNot, less01), 4, 2}, {connection(-5, less01, yes, no), 6, 2}, {api.Cond{Op: 99, Exprs: []api.Expr{deepExpr(3), {}, {Op: 99}}, Args: []api.Cond{less01}}, 9, 2}, {comparison(api.CondEq, wideExpr(101), wideExpr(99)), 201, 1},
	} {
		nodes, depth := Size(c.c)
		want(t, fmt.Sprint("Size ", i), []int{nodes, depth}, []int{c.nodes, c.depth}, 0, 0)
	}
}

func TestP13_1Same(t *testing.T) {
	all := []api.Cond{
		yes, no, {Op: -1}, less01, comparison(api.CondLt, y, x), comparison(api.CondLe, x, y), comparison(api.CondLt, x), comparison(api.CondLt), comparison(api.CondLt, x, y, x), comparison(api.CondLt, x, node(api.ExprNeg, y)), comparison(api.CondLt, x, api.Expr{Op: api.ExprVar, Var: 1, Num: "0"}), comparison(api.CondTrue, x), connection(api.CondNot), connection(api.CondNot, yes), connection(api.CondNot, no), connection(api.CondNot, less01),
		connection(api.CondAnd, yes, no), connection(api.CondAnd, no, yes), connection(api.CondOr, yes, no), connection(api.CondAnd, yes), connection(api.CondAnd, yes, no, yes), connection(99, yes, no), {Op: api.CondLt, Exprs: []api.Expr{x, y}, Args: []api.Cond{yes}}, deep(100), deep(101), wide(99), wide(101),
		connection(api.CondAnd, connection(api.CondNot, yes), no), connection(api.CondAnd, yes, connection(api.CondNot, no)), connection(api.CondNot, connection(api.CondAnd, yes, no)), connection(api.CondAnd, connection(api.CondAnd, yes), no, yes), connection(api.CondAnd, connection(api.CondAnd, yes, no), yes), connection(api.CondAnd, connection(api.CondAnd, yes, no, yes)),
	}
	for i, a := range all {
		for j, b := range all {
			want(t, fmt.Sprint("Same ", i, " ", j), Same(a, copied(b)), i == j, 0, 0)
		}
	}
	want(t, "Same", Same(yes, api.Cond{Exprs: []api.Expr{}, Args: []api.Cond{}}), true, 0, 0)
}

func TestP13_1Eval(t *testing.T) {
	long := api.Int("1" + strings.Repeat("0", 50)) // its square is too long
	for _, c := range []struct {
		src   string
		vars  []api.Int // of x, y and r.u
		holds bool
		e     api.Errno
	}{
		{"true", nil, true, api.OK}, {"false", nil, false, api.OK}, {"not true", nil, false, api.OK}, {"not false", nil, true, api.OK},
		{"true and true", nil, true, api.OK}, {"true and false", nil, false, api.OK}, {"false and true", nil, false, api.OK}, {"false and false", nil, false, api.OK}, {"true or true", nil, true, api.OK}, {"true or false", nil, true, api.OK}, {"false or true", nil, true, api.OK}, {"false or false", nil, false, api.OK},
		{"x = y", []api.Int{"1", "1"}, true, api.OK}, {"x = y", []api.Int{"1", "2"}, false, api.OK}, {"x != y", []api.Int{"1", "1"}, false, api.OK}, {"x != y", []api.Int{"1", "-1"}, true, api.OK},
		{"x < y", []api.Int{"1", "2"}, true, api.OK}, {"x < y", []api.Int{"2", "2"}, false, api.OK}, {"x < y", []api.Int{"9", "10"}, true, api.OK}, {"x < y", []api.Int{"-9", "-10"}, false, api.OK}, {"x <= y", []api.Int{"2", "2"}, true, api.OK}, {"x <= y", []api.Int{"3", "2"}, false, api.OK}, {"x <= y", []api.Int{"-" + nines, nines}, true, api.OK}, {"x > y", []api.Int{"10", "9"}, true, api.OK}, {"x >= y", []api.Int{"-1", "0"}, false, api.OK},
		{"not x < y and (y = 2 or x + y = 5)", []api.Int{"3", "2"}, true, api.OK}, {"not (x < y and y = 2)", []api.Int{"1", "2"}, false, api.OK},
		// Nothing is skipped, and the first error counts.
		{"true or 1 / x = 0", []api.Int{"0"}, false, api.ErrZero}, {"false and 1 / x = 0", []api.Int{"0"}, false, api.ErrZero}, {"x = 0 or 1 % x = 0", []api.Int{"0"}, false, api.ErrZero}, {"not 1 < 1 / x", []api.Int{"0"}, false, api.ErrZero}, {"1 / x < 1", []api.Int{"0"}, false, api.ErrZero}, {"x * x = 1", []api.Int{long}, false, api.ErrLarge}, {"x * x * 0 = 0", []api.Int{long}, false, api.ErrLarge}, {"1 = x * x", []api.Int{long}, false, api.ErrLarge}, {"true or x * x = 1", []api.Int{long}, false, api.ErrLarge},
		{"x / 0 = x * x", []api.Int{long}, false, api.ErrZero}, {"x * x = x / 0", []api.Int{long}, false, api.ErrLarge}, {"x * x = 0 or x / 0 = 0", []api.Int{long}, false, api.ErrLarge}, {"true or x / 0 = 0 and x * x = 0", []api.Int{long}, false, api.ErrZero}, {"not (x = 1 and x * x = 0) or x / 0 = 0", []api.Int{long}, false, api.ErrLarge},
		// Values of variables, also of those that do not occur.
		{"true", []api.Int{"x"}, false, api.ErrForm}, {"true", []api.Int{"1", ""}, false, api.ErrForm}, {"true", []api.Int{"-0"}, false, api.ErrForm}, {"true", []api.Int{huge}, false, api.ErrLarge}, {"true", []api.Int{nines, "-" + nines}, true, api.OK}, {"true", []api.Int{huge, "x"}, false, api.ErrLarge}, {"true", []api.Int{"x", huge}, false, api.ErrForm}, {"1 / x = 0", []api.Int{"0", "x"}, false, api.ErrForm}, {"x = r.u", []api.Int{"x", "1"}, false, api.ErrNone}, {"true", make([]api.Int, 12), false, api.ErrForm}, {"true", make([]api.Int, 13), false, api.ErrRange}, {"true", []api.Int{"1", "2", "3", "4", "5", "6", "7", "8", "9", "10", "11", "12"}, true, api.OK},
	} {
		holds, e := Eval(read(t, c.src), c.vars)
		want(t, fmt.Sprintf("Eval of %s with %v", c.src, c.vars), holds, c.holds, e, c.e)
	}
	r := rand.New(rand.NewSource(2))
	counts := map[string]int{}
	for range 20000 {
		n := 1 + r.Intn(3)
		c, values := randomFormed(r, n), randomValues(r, n)
		wanted, fault := referenceEval(c, values)
		holds, e := Eval(c, values)
		want(t, fmt.Sprintf("Eval of %+v with %v", c, values), holds, wanted, e, fault)
		counts[fmt.Sprint(wanted, fault)]++
	}
	for _, kind := range []string{"true 0", "false 0", "false 19", "false 10"} {
		if counts[kind] < 100 {
			t.Errorf("only %d conditions have the truth and the error %s", counts[kind], kind)
		}
	}
}

func TestP13_1Vars(t *testing.T) {
	for _, c := range []struct {
		src  string
		mask int
	}{{"true", 0}, {"1 = 2", 0}, {"x = 1", 1}, {"1 < -y", 2}, {"x + r.u <= 1", 5}, {"x = x", 1}, {"not (x = 0 and 0 * y = 0) or r.u % 1 = 0", 7}, {"x / 0 = 1 and false", 1}} {
		mask, e := Vars(read(t, c.src), 3)
		want(t, "Vars of "+c.src, mask, c.mask, e, api.OK)
	}
	mask, e := Vars(comparison(api.CondNe, variable(11), variable(3)), 12)
	want(t, "Vars", mask, 2056, e, api.OK)
	mask, e = Vars(yes, 0)
	want(t, "Vars", mask, 0, e, api.OK)
	r := rand.New(rand.NewSource(3))
	for range 3000 {
		c, mask := randomFormed(r, 5), 0
		for _, e := range exprsOf(c) {
			own, _ := expr.Vars(e, 5)
			mask |= own
		}
		got, e := Vars(c, 5)
		want(t, fmt.Sprintf("Vars of %+v", c), got, mask, e, api.OK)
	}
}

func TestP13_1Divisors(t *testing.T) {
	for _, c := range []struct {
		src      string
		divisors []string
	}{
		{"true", nil}, {"x = y", nil}, {"x / y = 1", []string{"y"}}, {"1 = x % y", []string{"y"}}, {"x / 2 = y % (2 - 1)", []string{"2 - 1"}}, {"x / 0 = 1", []string{"0"}}, {"x / y < y / x", []string{"y", "x"}}, {"x / (y / r.u) = 1 / (2 * x)", []string{"r.u", "y / r.u", "2 * x"}}, {"x / y = 1 and (not x % r.u = 1 or y / x < 0)", []string{"y", "r.u", "x"}}, {"x / y = x / y", []string{"y", "y"}}, {"false and 1 / x = 0", []string{"x"}},
	} {
		var wanted []api.Expr
		for _, src := range c.divisors {
			wanted = append(wanted, readExpr(t, src))
		}
		divisors, e := Divisors(read(t, c.src), 3)
		want(t, "Divisors of "+c.src, divisors, wanted, e, api.OK)
	}
	r := rand.New(rand.NewSource(4))
	for range 3000 {
		c := randomFormed(r, 3)
		var wanted []api.Expr
		for _, e := range exprsOf(c) {
			divisors, _ := expr.Divisors(e, 3)
			wanted = append(wanted, divisors...)
		}
		divisors, e := Divisors(c, 3)
		want(t, fmt.Sprintf("Divisors of %+v", c), divisors, wanted, e, api.OK)
	}
}

// TestSizes has conditions of sizes that only Check, Size and Same take, and others refuse (P1).
func TestSizes(t *testing.T) {
	const size = 1000000
	for _, long := range []api.Cond{deep(size), {Op: api.CondAnd, Args: make([]api.Cond, size-1)}, connection(api.CondAnd, yes, deep(size-2)), connection(api.CondOr, deep(size-2), yes), comparison(api.CondEq, x, deepExpr(size-2)), comparison(api.CondEq, deepExpr(size-2), x), {Op: api.CondEq, Exprs: make([]api.Expr, size-1)}} {
		nodes, _ := Size(long)
		want(t, "Size", nodes, size, Check(long, 0), api.ErrMany)
		want(t, "Same", Same(long, connection(api.CondNot, long)), false, 0, 0)
		want(t, "Same", Same(long, long), true, 0, 0)
		for _, f := range functions {
			got, wanted, fault := f.call(long, 2)
			want(t, f.name, got, wanted, fault, api.ErrMany)
		}
	}
	_, depth := Size(deep(size))
	want(t, "Size", depth, size, 0, 0)
	for _, by := range []api.Expr{deepExpr(size), node(api.ExprAdd, x, deepExpr(size))} {
		_, e := Substitute(less01, 2, 0, by)
		want(t, "Substitute", e, api.ErrMany, 0, 0)
		_, e = Replace(less01, []api.Expr{x, by}, 2)
		want(t, "Replace", e, api.ErrMany, 0, 0)
	}
	// A node below itself makes a condition without an end.
	endless := []api.Cond{{Op: api.CondNot}}
	endless[0].Args = endless
	want(t, "Check", Check(endless[0], 0), api.ErrMany, 0, 0)
	list := []api.Expr{{Op: api.ExprNeg}}
	list[0].Args = list
	want(t, "Check", Check(comparison(api.CondEq, x, list[0]), 1), api.ErrMany, 0, 0)
	want(t, "Check", Check(connection(api.CondNot, comparison(api.CondTrue, list[0])), 0), api.ErrMany, 0, 0)
	want(t, "Check", Check(comparison(api.CondTrue, list[0]), 0), api.ErrMany, 0, 0)
}
