package constant

import (
	"fmt"
	"math/big"
	"math/rand"
	"strings"
	"testing"

	"surveyor/api"
	"surveyor/cond"
	"surveyor/expr"
	"surveyor/parser"
	"surveyor/resolve"
)

// This file has the references that results are compared with, and random elements, expressions and conditions.

var (
	none, all = Element{Kind: None}, Element{Kind: Any}
	nines     = api.Int(strings.Repeat("9", api.MaxDigits))
	huge      = nines + "9"                                         // has too many digits for an element
	power     = api.Int("1" + strings.Repeat("0", api.MaxDigits/2)) // its square has too many digits
	longest   = api.Int(strings.Repeat("9", api.MaxLong))
	tooLong   = longest + "9"
)

// one returns the element of an integer.
func one(v api.Int) Element { return Element{One, v} }

// want reports an error if a value or an error number is not the expected one.
func want(t *testing.T, what string, got, wanted any, e, wantedError api.Errno) {
	t.Helper()
	if g, w := fmt.Sprintf("%+v", got), fmt.Sprintf("%+v", wanted); g != w || e != wantedError {
		t.Errorf("%.400s:\ngot  %.1000s, %d\nwant %.1000s, %d", what, g, e, w, wantedError)
	}
}

// numbers are those of elements.
var numbers = []api.Int{"0", "1", "-1", "2", "-2", "3", "-7", "12", power, "-" + power, nines, "-" + nines, api.Int("1" + strings.Repeat("0", api.MaxDigits-1))}

// elements returns elements of all kinds.
func elements() []Element {
	list := []Element{none, all}
	for _, v := range numbers {
		list = append(list, one(v))
	}
	return list
}

// faulty are elements that are not well-formed.
var faulty = []struct {
	a Element
	e api.Errno
}{
	{Element{Kind: -1}, api.ErrArg}, {Element{Kind: 3}, api.ErrArg}, {Element{Kind: 1 << 40}, api.ErrArg}, {Element{-1 << 63, "x"}, api.ErrArg}, {Element{3, "1"}, api.ErrArg}, {Element{-1, tooLong}, api.ErrArg},
	{one(""), api.ErrForm}, {one("-"), api.ErrForm}, {one("-0"), api.ErrForm}, {one("01"), api.ErrForm}, {one("+1"), api.ErrForm}, {one("x"), api.ErrForm}, {one(tooLong + "x"), api.ErrForm}, {one("0" + nines), api.ErrForm},
	{one(huge), api.ErrLarge}, {one("-" + huge), api.ErrLarge}, {one(longest), api.ErrLarge}, {one(tooLong), api.ErrLarge},
	{Element{None, "0"}, api.ErrForm}, {Element{Any, "0"}, api.ErrForm}, {Element{None, "x"}, api.ErrForm}, {Element{Any, tooLong}, api.ErrForm}, {Element{Any, " "}, api.ErrForm},
}

func parse(v api.Int) *big.Int {
	p, _ := new(big.Int).SetString(string(v), 10)
	return p
}

// integers returns integers of an element. Of all integers these are enough to have more than one result where there is more than one, and those of another element.
func integers(a, other Element) []*big.Int {
	switch a.Kind {
	case None:
		return nil
	case One:
		return []*big.Int{parse(a.Num)}
	}
	var out []*big.Int
	for i := int64(-3); i <= 3; i++ {
		out = append(out, big.NewInt(i))
	}
	out = append(out, parse(longest), parse("-"+longest))
	if other.Kind == One {
		out = append(out, parse(other.Num))
	}
	return out
}

// least returns the least element that contains integers.
func least(list []*big.Int) Element {
	texts := map[string]bool{}
	for _, p := range list {
		texts[p.String()] = true
	}
	switch {
	case len(texts) == 0:
		return none
	case len(texts) > 1 || len(strings.TrimPrefix(list[0].String(), "-")) > api.MaxDigits:
		return all
	}
	return one(api.Int(list[0].String()))
}

// results returns the results of an operation for all pairs.
func results(op int, a, b []*big.Int) []*big.Int {
	var out []*big.Int
	for _, p := range a {
		for _, q := range b {
			switch op {
			case api.ExprAdd:
				out = append(out, new(big.Int).Add(p, q))
			case api.ExprSub:
				out = append(out, new(big.Int).Sub(p, q))
			case api.ExprMul:
				out = append(out, new(big.Int).Mul(p, q))
			}
			if q.Sign() == 0 || op != api.ExprDiv && op != api.ExprMod {
				continue
			}
			// DivMod rounds so that the remainder is not negative.
			quotient, remainder := new(big.Int).DivMod(p, q, new(big.Int))
			if remainder.Sign() > 0 && q.Sign() < 0 {
				quotient.Sub(quotient, big.NewInt(1))
				remainder.Add(remainder, q)
			}
			out = append(out, map[int]*big.Int{api.ExprDiv: quotient, api.ExprMod: remainder}[op])
		}
	}
	return out
}

var binary = []int{api.ExprAdd, api.ExprSub, api.ExprMul, api.ExprDiv, api.ExprMod}

func referenceCompute(op int, a, b Element) Element {
	return least(results(op, integers(a, b), integers(b, a)))
}

func referenceNeg(a Element) Element {
	return least(results(api.ExprSub, integers(one("0"), a), integers(a, a)))
}

// compare is the truth of a comparison of two integers.
func compare(op int, p, q *big.Int) bool {
	return map[int]bool{api.CondEq: p.Cmp(q) == 0, api.CondNe: p.Cmp(q) != 0, api.CondLt: p.Cmp(q) < 0, api.CondLe: p.Cmp(q) <= 0}[op]
}

func referenceRefine(op int, a, b Element) (Element, Element) {
	var left, right []*big.Int
	for _, p := range integers(a, b) {
		for _, q := range integers(b, a) {
			if compare(op, p, q) {
				left, right = append(left, p), append(right, q)
			}
		}
	}
	return least(left), least(right)
}

func referenceEval(e api.Expr, env []Element) Element {
	switch e.Op {
	case api.ExprNum:
		return one(e.Num)
	case api.ExprVar:
		return env[e.Var]
	case api.ExprNeg:
		return referenceNeg(referenceEval(e.Args[0], env))
	}
	return referenceCompute(e.Op, referenceEval(e.Args[0], env), referenceEval(e.Args[1], env))
}

// referenceDecide returns the mask of the truths of a condition.
func referenceDecide(c api.Cond, env []Element) int {
	canBe := map[bool]bool{}
	switch c.Op {
	case api.CondTrue, api.CondFalse:
		canBe[c.Op == api.CondTrue] = true
	case api.CondNot:
		below := referenceDecide(c.Args[0], env)
		canBe[false], canBe[true] = below >= 2, below%2 == 1
	case api.CondAnd, api.CondOr:
		left, right := referenceDecide(c.Args[0], env), referenceDecide(c.Args[1], env)
		for pair := range 4 {
			a, b := pair/2, pair%2
			if left>>a%2 == 1 && right>>b%2 == 1 {
				canBe[c.Op == api.CondAnd && a+b == 2 || c.Op == api.CondOr && a+b > 0] = true
			}
		}
	default:
		a, b := referenceEval(c.Exprs[0], env), referenceEval(c.Exprs[1], env)
		if a.Kind == One && b.Kind == One {
			canBe[compare(c.Op, parse(a.Num), parse(b.Num))] = true
		} else if a.Kind != None && b.Kind != None {
			canBe[false], canBe[true] = true, true
		}
	}
	mask := 0
	if canBe[false] {
		mask++
	}
	if canBe[true] {
		mask += 2
	}
	return mask
}

func randomElement(r *rand.Rand) Element {
	list := elements()
	return list[r.Intn(len(list))]
}

// randomExpr returns an expression over n variables (at least one).
func randomExpr(r *rand.Rand, n, depth int) api.Expr {
	if depth <= 1 || r.Intn(4) == 0 {
		if r.Intn(3) == 0 {
			return api.Expr{Op: api.ExprNum, Num: numbers[r.Intn(6)]}
		}
		return api.Expr{Op: api.ExprVar, Var: r.Intn(n)}
	}
	e := api.Expr{Op: api.ExprNeg + r.Intn(6), Args: []api.Expr{randomExpr(r, n, depth-1)}}
	if e.Op != api.ExprNeg {
		e.Args = append(e.Args, randomExpr(r, n, depth-1))
	}
	return e
}

// randomCond returns a condition over n variables (at least one).
func randomCond(r *rand.Rand, n, depth int) api.Cond {
	switch op := r.Intn(9); {
	case op == api.CondTrue || op == api.CondFalse:
		return api.Cond{Op: op}
	case op == api.CondNot && depth > 1:
		return api.Cond{Op: op, Args: []api.Cond{randomCond(r, n, depth-1)}}
	case op > api.CondNot && depth > 1:
		return api.Cond{Op: op, Args: []api.Cond{randomCond(r, n, depth-1), randomCond(r, n, depth-1)}}
	}
	return api.Cond{Op: api.CondEq + r.Intn(4), Exprs: []api.Expr{randomExpr(r, n, 1+r.Intn(3)), randomExpr(r, n, 1+r.Intn(2))}}
}

// randomEnv returns elements of n variables.
func randomEnv(r *rand.Rand, n int) []Element {
	var env []Element
	for range n {
		switch r.Intn(4) {
		case 0:
			env = append(env, randomElement(r))
		case 1:
			env = append(env, all)
		default:
			env = append(env, one(numbers[r.Intn(8)]))
		}
	}
	return env
}

// randomValues returns values in elements, if all of them have some.
func randomValues(r *rand.Rand, env []Element) ([]api.Int, bool) {
	var values []api.Int
	for _, a := range env {
		switch a.Kind {
		case None:
			return nil, false
		case One:
			values = append(values, a.Num)
		case Any:
			values = append(values, numbers[r.Intn(len(numbers))])
		}
	}
	return values, true
}

// readCond returns the condition of a text over the variables x, y and z.
func readCond(t *testing.T, src string) api.Cond {
	t.Helper()
	tree, at, e := parser.Cond(src)
	if e != api.OK {
		t.Fatalf("%q has no tree: %d, %d", src, at, e)
	}
	c, at, e := resolve.Cond(tree, []string{"x", "y", "z"})
	if e != api.OK || cond.Check(c, 3) != api.OK {
		t.Fatalf("%q is no condition: %d, %d", src, at, e)
	}
	return c
}

// readExpr returns the expression of a text over the variables x, y and z.
func readExpr(t *testing.T, src string) api.Expr {
	t.Helper()
	e := readCond(t, src+" = 0").Exprs[0]
	if fault := expr.Check(e, 3); fault != api.OK {
		t.Fatalf("%q is no expression: %d", src, fault)
	}
	return e
}
