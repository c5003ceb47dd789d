package constant

import (
	"fmt"
	"math/rand"
	"testing"

	"surveyor/api"
	"surveyor/bigint"
	"surveyor/cond"
	"surveyor/expr"
)

func TestP20_1Check(t *testing.T) {
	for _, a := range elements() {
		want(t, fmt.Sprint("Check of ", a), 0, 0, Check(a), api.OK)
	}
	for i, c := range faulty {
		want(t, fmt.Sprint("Check ", i), 0, 0, Check(c.a), c.e)
	}
	if None != 0 || One != 1 || Any != 2 {
		t.Errorf("the kinds are %d, %d and %d", None, One, Any)
	}
}

func TestP20_1Of(t *testing.T) {
	for _, v := range numbers {
		a, e := Of(v)
		want(t, "Of "+string(v), a, one(v), e, api.OK)
	}
	for _, c := range []struct {
		v api.Int
		e api.Errno
	}{{"", api.ErrForm}, {"-0", api.ErrForm}, {"01", api.ErrForm}, {"x", api.ErrForm}, {"1.5", api.ErrForm}, {huge, api.ErrLarge}, {"-" + huge, api.ErrLarge}, {longest, api.ErrLarge}, {tooLong, api.ErrLarge}, {tooLong + "x", api.ErrForm}} {
		a, e := Of(c.v)
		want(t, "Of "+string(c.v), a, none, e, c.e)
	}
}

func TestP20_1Holds(t *testing.T) {
	values := append([]api.Int{huge, "-" + huge, longest, "-" + longest}, numbers...)
	for _, a := range elements() {
		for _, v := range values {
			holds, e := Holds(a, v)
			want(t, fmt.Sprint("Holds ", a, " ", v), holds, a == all || a == one(v), e, api.OK)
		}
		for v, fault := range map[api.Int]api.Errno{"": api.ErrForm, "-0": api.ErrForm, "x": api.ErrForm, tooLong: api.ErrLarge} {
			holds, e := Holds(a, v)
			want(t, fmt.Sprint("Holds ", a, " ", v), holds, false, e, fault)
		}
	}
	for i, c := range faulty {
		for _, v := range []api.Int{"0", c.a.Num, "x", tooLong} {
			holds, e := Holds(c.a, v)
			want(t, fmt.Sprint("Holds ", i, " ", v), holds, false, e, c.e)
		}
	}
}

func TestP20_1Examples(t *testing.T) {
	join, e := Join(one("3"), one("4"))
	want(t, "Join", join, all, e, api.OK)
	meet, e := Meet(one("3"), one("4"))
	want(t, "Meet", meet, none, e, api.OK)
}

func TestP20_1Order(t *testing.T) {
	for _, a := range elements() {
		for _, b := range elements() {
			what := fmt.Sprint(" of ", a, " and ", b)
			isWithin := a == none || b == all || a == b
			leq, e := Leq(a, b)
			want(t, "Leq"+what, leq, isWithin, e, api.OK)
			upper := least(append(integers(a, b), integers(b, a)...))
			join, e := Join(a, b)
			want(t, "Join"+what, join, upper, e, api.OK)
			widened, e := Widen(a, b)
			want(t, "Widen"+what, widened, upper, e, api.OK)
			lower := none
			switch {
			case a == all:
				lower = b
			case b == all || a == b:
				lower = a
			}
			meet, e := Meet(a, b)
			want(t, "Meet"+what, meet, lower, e, api.OK)
			wanted := a
			if a == all {
				wanted = b
			}
			narrowed, e := Narrow(a, b)
			want(t, "Narrow"+what, narrowed, wanted, e, api.OK)
		}
	}
}

// pair is a function of two elements, with its zero result.
type pair struct {
	name string
	call func(a, b Element) (any, api.Errno)
	zero any
}

// pairs returns the functions of two elements.
func pairs() []pair {
	list := []pair{
		{"Leq", func(a, b Element) (any, api.Errno) { return boxed(Leq(a, b)) }, false},
		{"Join", func(a, b Element) (any, api.Errno) { return boxed(Join(a, b)) }, none},
		{"Meet", func(a, b Element) (any, api.Errno) { return boxed(Meet(a, b)) }, none},
		{"Widen", func(a, b Element) (any, api.Errno) { return boxed(Widen(a, b)) }, none},
		{"Narrow", func(a, b Element) (any, api.Errno) { return boxed(Narrow(a, b)) }, none},
		{"Eval", func(a, b Element) (any, api.Errno) { return boxed(Eval(api.Expr{Num: "1"}, []Element{a, b})) }, none},
		{"Decide", func(a, b Element) (any, api.Errno) {
			return boxed(Decide(api.Cond{}, []Element{all, a, one("0"), b}))
		}, 0},
	}
	for _, op := range binary {
		list = append(list, pair{fmt.Sprint("Compute ", op), func(a, b Element) (any, api.Errno) { return boxed(Compute(op, a, b)) }, none})
	}
	for op := api.CondEq; op <= api.CondLe; op++ {
		list = append(list, pair{fmt.Sprint("Refine ", op), func(a, b Element) (any, api.Errno) {
			c, d, e := Refine(op, a, b)
			return []Element{c, d}, e
		}, []Element{none, none}})
	}
	return list
}

func boxed[T any](result T, e api.Errno) (any, api.Errno) {
	return result, e
}

// TestErrors has elements that are not well-formed, in all places (P20.1, P20.2).
func TestErrors(t *testing.T) {
	for i, c := range faulty {
		negated, e := Neg(c.a)
		want(t, fmt.Sprint("Neg ", i), negated, none, e, c.e)
		text, e := Format(c.a)
		want(t, fmt.Sprint("Format ", i), text, "", e, c.e)
		for _, f := range pairs() {
			for _, a := range elements() {
				got, e := f.call(c.a, a)
				want(t, fmt.Sprint(f.name, " ", i, " left"), got, f.zero, e, c.e)
				got, e = f.call(a, c.a)
				want(t, fmt.Sprint(f.name, " ", i, " right"), got, f.zero, e, c.e)
			}
			for _, other := range faulty {
				got, e := f.call(c.a, other.a)
				want(t, fmt.Sprint(f.name, " ", i, " with another"), got, f.zero, e, c.e)
			}
		}
	}
	for _, a := range []Element{none, all, one("2"), one("x"), one(huge), {Kind: 3}, {Any, "0"}} {
		for _, op := range []int{-1, api.ExprNum, api.ExprVar, api.ExprNeg, 8, 1 << 40, -1 << 63} {
			c, e := Compute(op, a, a)
			want(t, fmt.Sprint("Compute ", op, " of ", a), c, none, e, api.ErrArg)
		}
		for _, op := range []int{-1, api.CondTrue, api.CondFalse, api.CondNot, api.CondAnd, api.CondOr, 9, 1 << 40, -1 << 63} {
			c, d, e := Refine(op, a, a)
			want(t, fmt.Sprint("Refine ", op, " of ", a), []Element{c, d}, []Element{none, none}, e, api.ErrArg)
		}
	}
}

func TestP20_2Examples(t *testing.T) {
	quotient, e := Compute(api.ExprDiv, one("7"), one("-2"))
	want(t, "Compute", quotient, one("-4"), e, api.OK)
	product, e := Compute(api.ExprMul, all, one("0"))
	want(t, "Compute", product, one("0"), e, api.OK)
	sum := readExpr(t, "x % y + 2")
	value, e := Eval(sum, []Element{all, one("1"), all})
	want(t, "Eval", value, one("2"), e, api.OK)
	value, e = Eval(sum, []Element{all, one("0"), all})
	want(t, "Eval", value, none, e, api.OK)
	a, b, e := Refine(api.CondEq, all, one("5"))
	want(t, "Refine", []Element{a, b}, []Element{one("5"), one("5")}, e, api.OK)
	a, b, e = Refine(api.CondNe, one("5"), one("5"))
	want(t, "Refine", []Element{a, b}, []Element{none, none}, e, api.OK)
	mask, e := Decide(readCond(t, "x < 0 or y = 1"), []Element{all, one("1"), all})
	want(t, "Decide", mask, 2, e, api.OK)
}

func TestP20_2Neg(t *testing.T) {
	for _, a := range elements() {
		negated, e := Neg(a)
		want(t, fmt.Sprint("Neg of ", a), negated, referenceNeg(a), e, api.OK)
	}
	negated, e := Neg(one("-" + nines))
	want(t, "Neg", negated, one(nines), e, api.OK)
}

func TestP20_2Compute(t *testing.T) {
	for _, a := range elements() {
		for _, b := range elements() {
			for _, op := range binary {
				c, e := Compute(op, a, b)
				want(t, fmt.Sprint("Compute ", op, " of ", a, " and ", b), c, referenceCompute(op, a, b), e, api.OK)
			}
		}
	}
}

// TestP20_2Edges has the operations that do not depend on an operand, and results with the most digits, and more.
func TestP20_2Edges(t *testing.T) {
	zero, shorter := one("0"), nines[:len(nines)-1]
	for i, c := range []struct {
		op           int
		a, b, result Element
	}{
		{api.ExprMul, zero, all, zero}, {api.ExprMul, all, zero, zero}, {api.ExprMul, one("1"), all, all}, {api.ExprMul, all, all, all}, {api.ExprMul, zero, none, none}, {api.ExprMul, none, zero, none},
		{api.ExprDiv, zero, all, zero}, {api.ExprDiv, all, zero, none}, {api.ExprDiv, zero, zero, none}, {api.ExprDiv, one("5"), zero, none}, {api.ExprDiv, one("5"), all, all}, {api.ExprDiv, all, one("1"), all}, {api.ExprDiv, all, all, all}, {api.ExprDiv, zero, none, none}, {api.ExprDiv, none, zero, none}, {api.ExprDiv, none, all, none},
		{api.ExprMod, zero, all, zero}, {api.ExprMod, all, zero, none}, {api.ExprMod, zero, zero, none}, {api.ExprMod, one("5"), zero, none}, {api.ExprMod, all, one("1"), zero}, {api.ExprMod, all, one("-1"), zero}, {api.ExprMod, all, one("2"), all}, {api.ExprMod, all, one("-2"), all}, {api.ExprMod, one("1"), all, all}, {api.ExprMod, one("-1"), all, all}, {api.ExprMod, all, all, all}, {api.ExprMod, none, one("1"), none}, {api.ExprMod, zero, none, none}, {api.ExprMod, one("-7"), one("3"), one("2")}, {api.ExprMod, one("7"), one("-3"), one("-2")},
		{api.ExprSub, all, all, all}, {api.ExprAdd, none, all, none}, {api.ExprSub, all, none, none},
		{api.ExprAdd, one(nines), one("1"), all}, {api.ExprAdd, one(nines), zero, one(nines)}, {api.ExprAdd, one(nines), one("-" + nines), zero}, {api.ExprSub, one("-" + nines), one("1"), all}, {api.ExprSub, one("-" + nines), one("-1"), one("-" + shorter + "8")}, {api.ExprMul, one(power), one(power), all}, {api.ExprMul, one("-" + power), one(power[:len(power)-1]), one("-" + power + power[2:])}, {api.ExprMul, one(nines), one("-1"), one("-" + nines)}, {api.ExprDiv, one(nines), one("-1"), one("-" + nines)}, {api.ExprDiv, one("-1"), one(nines), one("-1")}, {api.ExprMod, one("-1"), one(nines), one(shorter + "8")}, {api.ExprMul, one(nines), one(nines), all},
	} {
		result, e := Compute(c.op, c.a, c.b)
		want(t, fmt.Sprint("Compute ", i), result, c.result, e, api.OK)
		if c.result.Kind == One {
			want(t, fmt.Sprint("digits ", i), 0, 0, Check(c.result), api.OK)
		}
	}
}

func TestP20_2Refine(t *testing.T) {
	for _, a := range elements() {
		for _, b := range elements() {
			for op := api.CondEq; op <= api.CondLe; op++ {
				c, d, e := Refine(op, a, b)
				left, right := referenceRefine(op, a, b)
				want(t, fmt.Sprint("Refine ", op, " of ", a, " and ", b), []Element{c, d}, []Element{left, right}, e, api.OK)
			}
		}
	}
}

func TestP20_2Format(t *testing.T) {
	for _, a := range elements() {
		text, e := Format(a)
		want(t, fmt.Sprint("Format of ", a), text, map[int]string{None: "none", One: string(a.Num), Any: "any"}[a.Kind], e, api.OK)
	}
}

func TestP20_2Eval(t *testing.T) {
	for _, c := range []struct {
		src   string
		env   []Element
		value Element
	}{
		{"7", []Element{none, none, none}, one("7")}, {"-7", []Element{none, none, none}, one("-7")}, {"x", []Element{none, one("1"), all}, none}, {"y", []Element{none, one("1"), all}, one("1")}, {"z", []Element{none, one("1"), all}, all}, {"-y", []Element{none, one("1"), all}, one("-1")}, {"-z", []Element{none, one("1"), all}, all}, {"-x", []Element{none, one("1"), all}, none},
		// Node by node: that both operands have the same value is not known.
		{"z - z", []Element{none, one("1"), all}, all}, {"z * 0 + 4", []Element{none, one("1"), all}, one("4")}, {"x * 0", []Element{none, one("1"), all}, none}, {"(z + y) % 1", []Element{none, one("1"), all}, one("0")}, {"0 / z", []Element{none, one("1"), all}, one("0")}, {"y / 0 * 0", []Element{none, one("1"), all}, none}, {"(z / (y - 1)) * 0", []Element{none, one("1"), all}, none},
		// What has too many digits is not known, but its product with 0 is.
		{"x * x", []Element{one(power), all, all}, all}, {"x * x * 0", []Element{one(power), all, all}, one("0")}, {"x * x / x", []Element{one(power), all, all}, all}, {"x * x - x * x", []Element{one(power), all, all}, all}, {"x * x % 1 + y", []Element{one(power), one("2"), all}, one("2")},
	} {
		value, e := Eval(readExpr(t, c.src), c.env)
		want(t, fmt.Sprint("Eval of ", c.src, " with ", c.env), value, c.value, e, api.OK)
	}
	r := rand.New(rand.NewSource(1))
	counts := map[int]int{}
	for range 5000 {
		e, env := randomExpr(r, 3, 1+r.Intn(4)), randomEnv(r, 3)
		value, fault := Eval(e, env)
		want(t, fmt.Sprintf("Eval of %+v with %v", e, env), value, referenceEval(e, env), fault, api.OK)
		counts[value.Kind]++
	}
	checkCounts(t, counts, []int{None, One, Any})
}

// checkCounts checks that random results are of all kinds.
func checkCounts(t *testing.T, counts map[int]int, kinds []int) {
	t.Helper()
	for _, kind := range kinds {
		if counts[kind] < 100 {
			t.Errorf("only %d results are %d", counts[kind], kind)
		}
	}
}

func TestP20_2Decide(t *testing.T) {
	env := []Element{none, one("1"), all} // of x, y and z
	for _, c := range []struct {
		src  string
		mask int
	}{
		{"true", 2}, {"false", 1}, {"not true", 1}, {"not false", 2},
		{"y = 1", 2}, {"y = 2", 1}, {"y != 1", 1}, {"y != 2", 2}, {"y < 1", 1}, {"y < 2", 2}, {"y <= 0", 1}, {"y <= 1", 2}, {"9 < 10", 2}, {"-9 < -10", 1},
		{"z = 1", 3}, {"z != z", 3}, {"y < z", 3}, {"z <= y", 3}, {"z * 0 = 0", 2}, {"z % 1 < 0", 1}, {"not z = 1", 3}, {"not y = 1", 1},
		{"x = 1", 0}, {"x = x", 0}, {"z = x", 0}, {"1 / 0 = 1", 0}, {"z % 0 < z", 0}, {"not x = 1", 0},
		// All combinations of truths, of which there are none without a truth.
		{"true and z = 1", 3}, {"false and z = 1", 1}, {"z = 1 and false", 1}, {"z = 1 and true", 3}, {"z = 1 and z = 2", 3}, {"true or z = 1", 2}, {"z = 1 or true", 2}, {"false or z = 1", 3}, {"z = 1 or z != 1", 3}, {"z < 0 or y = 1", 2}, {"false and x = 1", 0}, {"x = 1 and false", 0}, {"true or x = 1", 0}, {"x = 1 or true", 0}, {"x = 1 and z = 1", 0}, {"not (y = 1 and z = 1)", 3}, {"not (false and z = 1) and y = 1", 2},
	} {
		mask, e := Decide(readCond(t, c.src), env)
		want(t, "Decide of "+c.src, mask, c.mask, e, api.OK)
	}
	for left := range 4 {
		for right := range 4 {
			checkTables(t, left, right)
		}
	}
	r := rand.New(rand.NewSource(2))
	counts := map[int]int{}
	for range 5000 {
		c, env := randomCond(r, 3, 1+r.Intn(3)), randomEnv(r, 3)
		mask, e := Decide(c, env)
		want(t, fmt.Sprintf("Decide of %+v with %v", c, env), mask, referenceDecide(c, env), e, api.OK)
		counts[mask]++
	}
	checkCounts(t, counts, []int{0, 1, 2, 3})
}

// checkTables checks the truths of connections of conditions that have some truths.
func checkTables(t *testing.T, left, right int) {
	t.Helper()
	sources := []string{"x = 0", "y = 0", "y = 1", "z = 0"} // have the truths 0 to 3
	env := []Element{none, one("1"), all}
	both, either := 0, 0
	for pair := range 4 {
		a, b := pair/2, pair%2
		if left>>a%2 == 1 && right>>b%2 == 1 {
			both |= 1 << min(a, b)
			either |= 1 << max(a, b)
		}
	}
	mask, e := Decide(readCond(t, sources[left]+" and "+sources[right]), env)
	want(t, fmt.Sprint(left, " and ", right), mask, both, e, api.OK)
	mask, e = Decide(readCond(t, sources[left]+" or "+sources[right]), env)
	want(t, fmt.Sprint(left, " or ", right), mask, either, e, api.OK)
}

// deep returns an expression of a depth.
func deep(depth int) api.Expr {
	e := api.Expr{Num: "1"}
	for range depth - 1 {
		e = api.Expr{Op: api.ExprNeg, Args: []api.Expr{e}}
	}
	return e
}

// TestP20_2First has expressions and conditions with errors, which come before those of elements, and limits.
func TestP20_2First(t *testing.T) {
	variable := func(i int) api.Expr { return api.Expr{Op: api.ExprVar, Var: i} }
	for i, c := range []struct {
		e api.Expr
		n int
		f api.Errno
	}{
		{deep(1), 13, api.ErrRange}, {deep(1), 1 << 10, api.ErrRange}, {deep(65), 1, api.ErrMany}, {deep(1000000), 1, api.ErrMany}, {deep(17), 1, api.ErrDeep}, {api.Expr{Op: -1}, 1, api.ErrArg}, {api.Expr{Op: 8}, 1, api.ErrArg}, {api.Expr{Op: api.ExprAdd}, 1, api.ErrShape}, {api.Expr{}, 1, api.ErrForm}, {api.Expr{Num: huge}, 1, api.ErrLarge}, {api.Expr{Op: api.ExprVar, Num: "1"}, 1, api.ErrForm}, {variable(1), 1, api.ErrNone}, {variable(0), 0, api.ErrNone}, {variable(-1), 2, api.ErrNone}, {api.Expr{Num: "1", Var: 1}, 2, api.ErrForm},
	} {
		for _, a := range []Element{all, one("x"), {Kind: 3}} {
			env := make([]Element, c.n)
			for j := range env {
				env[j] = a
			}
			value, e := Eval(c.e, env)
			want(t, fmt.Sprint("Eval ", i), value, none, e, c.f)
			mask, e := Decide(api.Cond{Op: api.CondEq, Exprs: []api.Expr{{Num: "1"}, c.e}}, env)
			want(t, fmt.Sprint("Decide ", i), mask, 0, e, c.f)
		}
	}
	for i, c := range []api.Cond{{Op: -1}, {Op: 9}, {Op: api.CondNot}, {Op: api.CondEq, Exprs: []api.Expr{{Num: "1"}}}} {
		mask, e := Decide(c, []Element{{Kind: 3}})
		want(t, fmt.Sprint("Decide ", i), mask, 0, e, []api.Errno{api.ErrArg, api.ErrArg, api.ErrShape, api.ErrShape}[i])
	}
	env := make([]Element, api.MaxVars)
	env[api.MaxVars-1] = one("5")
	value, e := Eval(variable(api.MaxVars-1), env)
	want(t, "Eval", value, one("5"), e, api.OK)
	value, e = Eval(deep(api.MaxDepth), nil)
	want(t, "Eval", value, one("-1"), e, api.OK)
	mask, e := Decide(api.Cond{Op: api.CondTrue}, nil)
	want(t, "Decide", mask, 2, e, api.OK)
}

func TestP20_3Lattice(t *testing.T) {
	join := func(a, b Element) Element { c, _ := Join(a, b); return c }
	meet := func(a, b Element) Element { c, _ := Meet(a, b); return c }
	leq := func(a, b Element) bool { ok, _ := Leq(a, b); return ok }
	list := []Element{none, one("0"), one("1"), one("-" + nines), all}
	for _, a := range list {
		for _, b := range list {
			what := fmt.Sprint(a, " and ", b)
			want(t, what, []Element{join(a, b), meet(a, b), join(a, meet(a, b)), meet(a, join(a, b))}, []Element{join(b, a), meet(b, a), a, a}, 0, 0)
			want(t, what, []bool{leq(a, b), leq(a, b), leq(a, join(a, b)), leq(meet(a, b), a)}, []bool{join(a, b) == b, meet(a, b) == a, true, true}, 0, 0)
			for _, c := range list {
				what := fmt.Sprint(what, " and ", c)
				want(t, what, []Element{join(a, join(b, c)), meet(a, meet(b, c))}, []Element{join(join(a, b), c), meet(meet(a, b), c)}, 0, 0)
				// The least upper bound, and the greatest lower one.
				want(t, what, leq(join(a, b), c), leq(a, c) && leq(b, c), 0, 0)
				want(t, what, leq(c, meet(a, b)), leq(c, a) && leq(c, b), 0, 0)
			}
		}
	}
}

// holds reports whether an integer is in an element, where both are well-formed.
func holds(t *testing.T, a Element, v api.Int) bool {
	t.Helper()
	ok, e := Holds(a, v)
	want(t, "Holds", 0, 0, e, api.OK)
	return ok
}

func TestP20_3Operations(t *testing.T) {
	compute := map[int]func(a, b api.Int) (api.Int, api.Errno){api.ExprAdd: bigint.Add, api.ExprSub: bigint.Sub, api.ExprMul: bigint.Mul, api.ExprDiv: bigint.Quo, api.ExprMod: bigint.Rem}
	for _, v := range numbers {
		for _, w := range numbers {
			for kinds := range 4 {
				a, b := one(v), one(w)
				if kinds%2 == 1 {
					a = all
				}
				if kinds >= 2 {
					b = all
				}
				what := fmt.Sprint(" of ", v, " in ", a, " and ", w, " in ", b)
				for _, op := range binary {
					if value, fault := compute[op](v, w); fault == api.OK {
						result, e := Compute(op, a, b)
						want(t, fmt.Sprint("Compute ", op, what), holds(t, result, value), true, e, api.OK)
					}
				}
				for op := api.CondEq; op <= api.CondLe; op++ {
					if compare(op, parse(v), parse(w)) {
						c, d, e := Refine(op, a, b)
						want(t, fmt.Sprint("Refine ", op, what), holds(t, c, v) && holds(t, d, w), true, e, api.OK)
					}
				}
			}
		}
	}
}

func TestP20_3Values(t *testing.T) {
	r := rand.New(rand.NewSource(3))
	count, truths := 0, 0
	for range 20000 {
		env := randomEnv(r, 3)
		values, ok := randomValues(r, env)
		if !ok {
			continue
		}
		e := randomExpr(r, 3, 1+r.Intn(4))
		if value, fault := expr.Eval(e, values); fault == api.OK {
			result, fault := Eval(e, env)
			want(t, fmt.Sprintf("Eval of %+v with %v in %v", e, values, env), holds(t, result, value), true, fault, api.OK)
			count++
		}
		c := randomCond(r, 3, 1+r.Intn(3))
		if truth, fault := cond.Eval(c, values); fault == api.OK {
			mask, fault := Decide(c, env)
			want(t, fmt.Sprintf("Decide of %+v with %v in %v", c, values, env), map[bool]int{false: mask & 1, true: mask >> 1}[truth], 1, fault, api.OK)
			truths++
		}
	}
	if count < 5000 || truths < 5000 {
		t.Errorf("only %d values and %d truths", count, truths)
	}
}
