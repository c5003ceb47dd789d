package expr

import (
	"fmt"
	"math/big"
	"math/rand"
	"reflect"
	"strings"
	"testing"

	"surveyor/api"
	"surveyor/bigint"
)

// This file has the references that results are compared with, and random expressions.

// want reports an error if a value or an error number is not the expected one.
func want(t *testing.T, what string, got, wanted any, e, wantedError api.Errno) {
	t.Helper()
	if g, w := fmt.Sprintf("%+v", got), fmt.Sprintf("%+v", wanted); g != w || e != wantedError {
		t.Errorf("%.400s:\ngot  %.1000s, %d\nwant %.1000s, %d", what, g, e, w, wantedError)
	}
}

func num(text api.Int) api.Expr { return api.Expr{Op: api.ExprNum, Num: text} }

func variable(i int) api.Expr { return api.Expr{Op: api.ExprVar, Var: i} }

func node(op int, args ...api.Expr) api.Expr { return api.Expr{Op: op, Args: args} }

var zero = api.Expr{}

// arity is how many operands an operation has.
var arity = map[int]int{api.ExprNum: 0, api.ExprVar: 0, api.ExprNeg: 1, api.ExprAdd: 2, api.ExprSub: 2, api.ExprMul: 2, api.ExprDiv: 2, api.ExprMod: 2}

// list returns the nodes in preorder.
func list(x api.Expr) []api.Expr {
	all := []api.Expr{x}
	for _, a := range x.Args {
		all = append(all, list(a)...)
	}
	return all
}

func depthOf(x api.Expr) int {
	depth := 0
	for _, a := range x.Args {
		depth = max(depth, depthOf(a))
	}
	return depth + 1
}

// referenceCheck is the error of an expression.
func referenceCheck(x api.Expr, n int) api.Errno {
	switch {
	case n < 0 || n > 12:
		return api.ErrRange
	case len(list(x)) > 64:
		return api.ErrMany
	case depthOf(x) > 16:
		return api.ErrDeep
	}
	for _, node := range list(x) {
		most, known := arity[node.Op]
		digits := len(strings.TrimPrefix(string(node.Num), "-"))
		switch {
		case !known:
			return api.ErrArg
		case len(node.Args) != most:
			return api.ErrShape
		case node.Op == api.ExprNum && bigint.Check(node.Num) != api.OK:
			return bigint.Check(node.Num)
		case node.Op == api.ExprNum && digits > 100:
			return api.ErrLarge
		case node.Op != api.ExprNum && digits+len(node.Num) > 0:
			return api.ErrForm
		case node.Op == api.ExprVar && (node.Var >= n || node.Var < 0):
			return api.ErrNone
		case node.Op != api.ExprVar && node.Var != 0:
			return api.ErrForm
		}
	}
	return api.OK
}

// faulty is a number, or the error in place of it.
type faulty struct {
	number *big.Int
	e      api.Errno
}

func (f faulty) text() api.Int {
	if f.e != api.OK {
		return ""
	}
	return api.Int(f.number.String())
}

// referenceEval is the value of a well-formed expression.
func referenceEval(x api.Expr, vars []api.Int) faulty {
	var values []*big.Int
	for _, a := range x.Args {
		v := referenceEval(a, vars)
		if v.e != api.OK {
			return v
		}
		values = append(values, v.number)
	}
	out := new(big.Int)
	switch x.Op {
	case api.ExprNum:
		out.SetString(string(x.Num), 10)
	case api.ExprVar:
		out.SetString(string(vars[x.Var]), 10)
	case api.ExprNeg:
		out.Neg(values[0])
	case api.ExprAdd:
		out.Add(values[0], values[1])
	case api.ExprSub:
		out.Sub(values[0], values[1])
	case api.ExprMul:
		out.Mul(values[0], values[1])
	default:
		if values[1].Sign() == 0 {
			return faulty{nil, api.ErrZero}
		}
		// DivMod rounds so that the remainder is not negative.
		quotient, remainder := new(big.Int).DivMod(values[0], values[1], new(big.Int))
		if remainder.Sign() > 0 && values[1].Sign() < 0 {
			quotient.Sub(quotient, big.NewInt(1))
			remainder.Add(remainder, values[1])
		}
		out = map[int]*big.Int{api.ExprDiv: quotient, api.ExprMod: remainder}[x.Op]
	}
	if len(strings.TrimPrefix(out.String(), "-")) > 100 {
		return faulty{nil, api.ErrLarge}
	}
	return faulty{out, api.OK}
}

// referenceFold replaces nodes by the values that they have without variables.
func referenceFold(x api.Expr) api.Expr {
	hasVariable := false
	for _, y := range list(x) {
		hasVariable = hasVariable || y.Op == api.ExprVar
	}
	if !hasVariable {
		if v := referenceEval(x, nil); v.e == api.OK {
			return num(v.text())
		}
	}
	out := api.Expr{Op: x.Op, Num: x.Num, Var: x.Var}
	for _, a := range x.Args {
		out.Args = append(out.Args, referenceFold(a))
	}
	return out
}

// referenceLinear is the linear form of a folded expression: the coefficients, and the constant behind them; nil if there is none.
func referenceLinear(x api.Expr, n int) []*big.Int {
	out := make([]*big.Int, n+1)
	for i := range out {
		out[i] = new(big.Int)
	}
	var parts [][]*big.Int
	for _, a := range x.Args {
		part := referenceLinear(a, n)
		if part == nil {
			return nil
		}
		parts = append(parts, part)
	}
	isConstant := func(l []*big.Int) bool {
		for _, c := range l[:n] {
			if c.Sign() != 0 {
				return false
			}
		}
		return true
	}
	for i := range out {
		switch {
		case x.Op == api.ExprNum && i == n:
			out[i].SetString(string(x.Num), 10)
		case x.Op == api.ExprVar && i == x.Var:
			out[i].SetInt64(1)
		case x.Op == api.ExprNeg:
			out[i].Neg(parts[0][i])
		case x.Op == api.ExprAdd:
			out[i].Add(parts[0][i], parts[1][i])
		case x.Op == api.ExprSub:
			out[i].Sub(parts[0][i], parts[1][i])
		case x.Op == api.ExprMul && isConstant(parts[0]):
			out[i].Mul(parts[0][n], parts[1][i])
		case x.Op == api.ExprMul && isConstant(parts[1]):
			out[i].Mul(parts[1][n], parts[0][i])
		case x.Op >= api.ExprMul:
			return nil
		}
		if len(strings.TrimPrefix(out[i].String(), "-")) > 100 {
			return nil
		}
	}
	return out
}

// linearOf returns the expression with these coefficients.
func linearOf(numbers []*big.Int) api.Linear {
	var l api.Linear
	for i, c := range numbers {
		if i < len(numbers)-1 {
			l.Coef = append(l.Coef, api.Rat(c.String()))
		} else {
			l.Const = api.Rat(c.String())
		}
	}
	return l
}

// referenceFormat puts an operand into parentheses where the document names them.
func referenceFormat(x api.Expr, names []string) string {
	isSum := func(op int) bool { return op == api.ExprAdd || op == api.ExprSub }
	isProduct := func(op int) bool { return op == api.ExprMul || op == api.ExprDiv || op == api.ExprMod }
	var texts []string
	for i, a := range x.Args {
		text := referenceFormat(a, names)
		needs := (isProduct(x.Op) || x.Op == api.ExprNeg) && isSum(a.Op) || i == 1 && isSum(x.Op) && isSum(a.Op) || (i == 1 && isProduct(x.Op) || x.Op == api.ExprNeg) && isProduct(a.Op)
		if needs {
			text = "(" + text + ")"
		}
		texts = append(texts, text)
	}
	switch x.Op {
	case api.ExprNum:
		return string(x.Num)
	case api.ExprVar:
		return names[x.Var]
	case api.ExprNeg:
		return "-" + texts[0]
	}
	return texts[0] + map[int]string{api.ExprAdd: " + ", api.ExprSub: " - ", api.ExprMul: " * ", api.ExprDiv: " / ", api.ExprMod: " % "}[x.Op] + texts[1]
}

// numbers are those of random expressions.
var numbers = []api.Int{"0", "0", "1", "-1", "2", "3", "-7", "10", "12345678901", api.Int(strings.Repeat("9", 100)), api.Int("-" + strings.Repeat("9", 100)), api.Int("1" + strings.Repeat("0", 49)), api.Int("1" + strings.Repeat("0", 50))}

// random returns an expression over n variables (at least one).
func random(r *rand.Rand, n, depth int) api.Expr {
	if depth <= 1 || r.Intn(4) == 0 {
		if r.Intn(2) == 0 {
			return variable(r.Intn(n))
		}
		return num(numbers[r.Intn(len(numbers))])
	}
	op := api.ExprNeg + r.Intn(6)
	x := api.Expr{Op: op}
	for range arity[op] {
		x.Args = append(x.Args, random(r, n, depth-1))
	}
	return x
}

// randomFormed returns an expression that is well-formed.
func randomFormed(r *rand.Rand, n int) api.Expr {
	for {
		if x := random(r, n, 1+r.Intn(8)); referenceCheck(x, n) == api.OK {
			return x
		}
	}
}

// randomValues returns values of n variables.
func randomValues(r *rand.Rand, n int) []api.Int {
	var out []api.Int
	for range n {
		out = append(out, numbers[r.Intn(len(numbers))])
	}
	return out
}

// copied returns an expression with the same nodes in other memory.
func copied(x api.Expr) api.Expr {
	out := x
	out.Args = nil
	for _, a := range x.Args {
		out.Args = append(out.Args, copied(a))
	}
	return out
}

// isEqual compares all nodes; lists without elements are equal.
func isEqual(a, b api.Expr) bool {
	x, y := list(a), list(b)
	if len(x) != len(y) {
		return false
	}
	for i := range x {
		if len(x[i].Args) != len(y[i].Args) {
			return false
		}
		x[i].Args, y[i].Args = nil, nil
	}
	return reflect.DeepEqual(x, y)
}
