package cond

import (
	"fmt"
	"math/big"
	"math/rand"
	"strings"
	"testing"

	"surveyor/api"
	"surveyor/expr"
	"surveyor/fact"
	"surveyor/parser"
	"surveyor/resolve"
)

// This file has the references that results are compared with, and random conditions.

var (
	names   = []string{"x", "y", "r.u"}
	x, y, z = variable(0), variable(1), variable(2)
	nines   = api.Int(strings.Repeat("9", 100))
	huge    = nines + "9"
)

// want reports an error if a value or an error number is not the expected one.
func want(t *testing.T, what string, got, wanted any, e, wantedError api.Errno) {
	t.Helper()
	if g, w := fmt.Sprintf("%+v", got), fmt.Sprintf("%+v", wanted); g != w || e != wantedError {
		t.Errorf("%.400s:\ngot  %.1000s, %d\nwant %.1000s, %d", what, g, e, w, wantedError)
	}
}

func num(text api.Int) api.Expr { return api.Expr{Op: api.ExprNum, Num: text} }

func variable(i int) api.Expr { return api.Expr{Op: api.ExprVar, Var: i} }

func node(op int, args ...api.Expr) api.Expr { return api.Expr{Op: op, Args: args} }

// comparison and connection build conditions.
func comparison(op int, exprs ...api.Expr) api.Cond { return api.Cond{Op: op, Exprs: exprs} }

func connection(op int, args ...api.Cond) api.Cond { return api.Cond{Op: op, Args: args} }

// read returns the condition of a text over the variables x, y and r.u.
func read(t *testing.T, src string) api.Cond {
	t.Helper()
	tree, at, e := parser.Cond(src)
	if e != api.OK {
		t.Fatalf("%q has no tree: %d, %d", src, at, e)
	}
	c, at, e := resolve.Cond(tree, names)
	if e != api.OK {
		t.Fatalf("%q is no condition: %d, %d", src, at, e)
	}
	return c
}

// readAll returns the conditions of texts.
func readAll(t *testing.T, list []string) []api.Cond {
	t.Helper()
	var out []api.Cond
	for _, src := range list {
		out = append(out, read(t, src))
	}
	return out
}

// readExpr returns the expression of a text.
func readExpr(t *testing.T, src string) api.Expr {
	t.Helper()
	return read(t, src+" = 0").Exprs[0]
}

// sizes are how many expressions and operands operations have.
var sizes = map[int][2]int{api.CondTrue: {0, 0}, api.CondFalse: {0, 0}, api.CondEq: {2, 0}, api.CondNe: {2, 0}, api.CondLt: {2, 0}, api.CondLe: {2, 0}, api.CondNot: {0, 1}, api.CondAnd: {0, 2}, api.CondOr: {0, 2}}

// list returns the nodes in preorder.
func list(c api.Cond) []api.Cond {
	all := []api.Cond{c}
	for _, a := range c.Args {
		all = append(all, list(a)...)
	}
	return all
}

// exprsOf returns all expressions, from left to right.
func exprsOf(c api.Cond) []api.Expr {
	var all []api.Expr
	for _, part := range list(c) {
		all = append(all, part.Exprs...)
	}
	return all
}

// exprNodes returns the number of nodes of an expression.
func exprNodes(e api.Expr) int {
	count := 1
	for _, a := range e.Args {
		count += exprNodes(a)
	}
	return count
}

func countOf(c api.Cond) int {
	count := len(list(c))
	for _, e := range exprsOf(c) {
		count += exprNodes(e)
	}
	return count
}

func depthOf(c api.Cond) int {
	depth := 0
	for _, a := range c.Args {
		depth = max(depth, depthOf(a))
	}
	return depth + 1
}

// referenceCheck is the error of a condition.
func referenceCheck(c api.Cond, n int) api.Errno {
	switch {
	case n < 0 || n > 12:
		return api.ErrRange
	case countOf(c) > 64:
		return api.ErrMany
	case depthOf(c) > 16:
		return api.ErrDeep
	}
	for _, part := range list(c) {
		size, known := sizes[part.Op]
		switch {
		case !known:
			return api.ErrArg
		case size != [2]int{len(part.Exprs), len(part.Args)}:
			return api.ErrShape
		}
		for _, e := range part.Exprs {
			if fault := expr.Check(e, n); fault != api.OK {
				return fault
			}
		}
	}
	return api.OK
}

// referenceEval is the truth of a well-formed condition.
func referenceEval(c api.Cond, vars []api.Int) (bool, api.Errno) {
	for _, e := range exprsOf(c) {
		if _, fault := expr.Eval(e, vars); fault != api.OK {
			return false, fault
		}
	}
	return referenceTruth(c, vars), api.OK
}

func referenceTruth(c api.Cond, vars []api.Int) bool {
	order := 0
	if len(c.Exprs) == 2 {
		a, _ := expr.Eval(c.Exprs[0], vars)
		b, _ := expr.Eval(c.Exprs[1], vars)
		p, _ := new(big.Int).SetString(string(a), 10)
		q, _ := new(big.Int).SetString(string(b), 10)
		order = p.Cmp(q)
	}
	switch c.Op {
	case api.CondFalse:
		return false
	case api.CondEq:
		return order == 0
	case api.CondNe:
		return order != 0
	case api.CondLt:
		return order == -1
	case api.CondLe:
		return order != 1
	case api.CondNot:
		return !referenceTruth(c.Args[0], vars)
	case api.CondAnd:
		return referenceTruth(c.Args[0], vars) && referenceTruth(c.Args[1], vars)
	case api.CondOr:
		return referenceTruth(c.Args[0], vars) || referenceTruth(c.Args[1], vars)
	}
	return true
}

// referencePositive is the negation normal form.
func referencePositive(c api.Cond) api.Cond {
	switch c.Op {
	case api.CondNot:
		return referenceNegate(c.Args[0])
	case api.CondAnd, api.CondOr:
		return connection(c.Op, referencePositive(c.Args[0]), referencePositive(c.Args[1]))
	}
	return c
}

// referenceNegate is the negation normal form of the negation.
func referenceNegate(c api.Cond) api.Cond {
	switch c.Op {
	case api.CondTrue:
		return api.Cond{Op: api.CondFalse}
	case api.CondFalse:
		return api.Cond{Op: api.CondTrue}
	case api.CondEq:
		return comparison(api.CondNe, c.Exprs[0], c.Exprs[1])
	case api.CondNe:
		return comparison(api.CondEq, c.Exprs[0], c.Exprs[1])
	case api.CondLt:
		return comparison(api.CondLe, c.Exprs[1], c.Exprs[0])
	case api.CondLe:
		return comparison(api.CondLt, c.Exprs[1], c.Exprs[0])
	case api.CondAnd:
		return connection(api.CondOr, referenceNegate(c.Args[0]), referenceNegate(c.Args[1]))
	case api.CondOr:
		return connection(api.CondAnd, referenceNegate(c.Args[0]), referenceNegate(c.Args[1]))
	}
	return referencePositive(c.Args[0])
}

// clauseCount is the number of lists of a negation normal form, or -1 if that of a part is too large.
func clauseCount(c api.Cond) int {
	count := map[int]int{api.CondTrue: 1, api.CondFalse: 0, api.CondEq: 1, api.CondNe: 2, api.CondLt: 1, api.CondLe: 1}[c.Op]
	if len(c.Args) == 2 {
		a, b := clauseCount(c.Args[0]), clauseCount(c.Args[1])
		if a < 0 || b < 0 {
			return -1
		}
		count = map[int]int{api.CondAnd: a * b, api.CondOr: a + b}[c.Op]
	}
	if count > 64 {
		return -1
	}
	return count
}

// clause is the list with a number of a negation normal form.
func clause(c api.Cond, number int) []api.Cond {
	switch c.Op {
	case api.CondTrue:
		return nil
	case api.CondNe:
		return []api.Cond{comparison(api.CondLt, c.Exprs[number], c.Exprs[1-number])}
	case api.CondOr:
		if first := clauseCount(c.Args[0]); number >= first {
			return clause(c.Args[1], number-first)
		}
		return clause(c.Args[0], number)
	case api.CondAnd:
		second := clauseCount(c.Args[1])
		return append(clause(c.Args[0], number/second), clause(c.Args[1], number%second)...)
	}
	return []api.Cond{c}
}

// referenceFacts is the conjunction of the facts of a condition.
func referenceFacts(t *testing.T, c api.Cond, n int) []api.Fact {
	var facts []api.Fact
	var collect func(c api.Cond)
	collect = func(c api.Cond) {
		switch c.Op {
		case api.CondAnd:
			collect(c.Args[0])
			collect(c.Args[1])
		case api.CondFalse:
			facts = append(facts, api.Fact{Coef: zeros(n), Const: "-1", Mod: "0"})
		case api.CondEq:
			facts = append(facts, referenceFact(api.FactEq, c.Exprs[0], c.Exprs[1], 0, n)...)
		case api.CondLt:
			facts = append(facts, referenceFact(api.FactGe, c.Exprs[1], c.Exprs[0], 1, n)...)
		case api.CondLe:
			facts = append(facts, referenceFact(api.FactGe, c.Exprs[1], c.Exprs[0], 0, n)...)
		}
	}
	collect(referencePositive(c))
	conjunction, e := fact.Conjoin(facts, n)
	if e != api.OK {
		t.Errorf("no conjunction: %d", e)
	}
	return conjunction
}

// referenceFact is the fact about a - b - less, if there is one.
func referenceFact(op int, a, b api.Expr, less int64, n int) []api.Fact {
	l, ok, _ := expr.Linear(a, n)
	m, too, _ := expr.Linear(b, n)
	if !ok || !too {
		return nil
	}
	var numbers []api.Int
	for i, c := range append(l.Coef, l.Const) {
		p, _ := new(big.Int).SetString(string(c), 10)
		q, _ := new(big.Int).SetString(string(append(m.Coef, m.Const)[i]), 10)
		p.Sub(p, q)
		if i == n {
			p.Sub(p, big.NewInt(less))
		}
		numbers = append(numbers, api.Int(p.String()))
		if len(strings.TrimPrefix(p.String(), "-")) > 100 {
			return nil
		}
	}
	return []api.Fact{{Op: op, Coef: numbers[:n], Const: numbers[n], Mod: "0"}}
}

func zeros(n int) []api.Int {
	var out []api.Int
	for range n {
		out = append(out, "0")
	}
	return out
}

// referenceFormat puts an operand into parentheses where the document names them.
func referenceFormat(c api.Cond) string {
	var texts []string
	for _, e := range c.Exprs {
		text, _ := expr.Format(e, names)
		texts = append(texts, text)
	}
	for i, a := range c.Args {
		text := referenceFormat(a)
		needs := (c.Op == api.CondAnd || c.Op == api.CondNot) && a.Op == api.CondOr || (c.Op == api.CondAnd && i == 1 || c.Op == api.CondNot) && a.Op == api.CondAnd || c.Op == api.CondOr && i == 1 && a.Op == api.CondOr
		if needs {
			text = "(" + text + ")"
		}
		texts = append(texts, text)
	}
	word := []string{"true", "false", "=", "!=", "<", "<=", "not", "and", "or"}[c.Op]
	switch len(texts) {
	case 0:
		return word
	case 1:
		return word + " " + texts[0]
	}
	return texts[0] + " " + word + " " + texts[1]
}

// numbers are those of random expressions.
var numbers = []api.Int{"0", "0", "1", "-1", "2", "3", "-5", "12345678901", nines, "-" + nines, api.Int("5" + strings.Repeat("0", 99)), api.Int("-6" + strings.Repeat("0", 99))}

// randomExpr returns an expression over n variables (at least one).
func randomExpr(r *rand.Rand, n, depth int) api.Expr {
	if depth <= 1 || r.Intn(3) == 0 {
		switch r.Intn(10) {
		case 0, 1, 2, 3, 4:
			return variable(r.Intn(n))
		case 5, 6, 7, 8:
			return num(numbers[r.Intn(6)])
		}
		return num(numbers[r.Intn(len(numbers))])
	}
	op := []int{api.ExprNeg, api.ExprAdd, api.ExprAdd, api.ExprSub, api.ExprSub, api.ExprMul, api.ExprDiv, api.ExprMod}[r.Intn(8)]
	if op == api.ExprNeg {
		return node(op, randomExpr(r, n, depth-1))
	}
	return node(op, randomExpr(r, n, depth-1), randomExpr(r, n, depth-1))
}

// random returns a condition over n variables (at least one).
func random(r *rand.Rand, n, depth int) api.Cond {
	if depth <= 1 || r.Intn(4) == 0 {
		if r.Intn(8) == 0 {
			return api.Cond{Op: r.Intn(2)}
		}
		return comparison(api.CondEq+r.Intn(4), randomExpr(r, n, 1+r.Intn(3)), randomExpr(r, n, 1+r.Intn(3)))
	}
	op := api.CondNot + r.Intn(3)
	c := api.Cond{Op: op}
	for range sizes[op][1] {
		c.Args = append(c.Args, random(r, n, depth-1))
	}
	return c
}

// randomFormed returns a condition that is well-formed.
func randomFormed(r *rand.Rand, n int) api.Cond {
	for {
		if c := random(r, n, 1+r.Intn(5)); referenceCheck(c, n) == api.OK {
			return c
		}
	}
}

// randomValues returns values of n variables.
func randomValues(r *rand.Rand, n int) []api.Int {
	var out []api.Int
	for range n {
		if r.Intn(12) == 0 {
			out = append(out, numbers[r.Intn(len(numbers))])
		} else {
			out = append(out, api.Int(fmt.Sprint(r.Intn(9)-4)))
		}
	}
	return out
}

// copiedExpr and copied return the same nodes in other memory.
func copiedExpr(e api.Expr) api.Expr {
	out := e
	out.Args = nil
	for _, a := range e.Args {
		out.Args = append(out.Args, copiedExpr(a))
	}
	return out
}

func copied(c api.Cond) api.Cond {
	out := api.Cond{Op: c.Op}
	for _, e := range c.Exprs {
		out.Exprs = append(out.Exprs, copiedExpr(e))
	}
	for _, a := range c.Args {
		out.Args = append(out.Args, copied(a))
	}
	return out
}
