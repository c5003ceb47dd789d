package program

import (
	"fmt"
	"math/big"
	"strings"
	"testing"

	"surveyor/api"
	"surveyor/bigint"
	"surveyor/cond"
	"surveyor/expr"
	"surveyor/lexer"
	"surveyor/parser"
	"surveyor/resolve"
)

// This file has the references that results are compared with.

var (
	nines = api.Int(strings.Repeat("9", 100))
	huge  = nines + "9"
)

// want reports an error if a value or an error number is not the expected one.
func want(t *testing.T, what string, got, wanted any, e, wantedError api.Errno) {
	t.Helper()
	if g, w := fmt.Sprintf("%+v", got), fmt.Sprintf("%+v", wanted); g != w || e != wantedError {
		t.Errorf("%.1500s:\ngot  %.1000s, %d\nwant %.1000s, %d", what, g, e, w, wantedError)
	}
}

func num(text api.Int) api.Expr { return api.Expr{Op: api.ExprNum, Num: text} }

func variable(i int) api.Expr { return api.Expr{Op: api.ExprVar, Var: i} }

func node(op int, args ...api.Expr) api.Expr { return api.Expr{Op: op, Args: args} }

// read returns the program of a text.
func read(t *testing.T, src string) api.Program {
	t.Helper()
	tree, at, e := parser.Parse(src)
	if e != api.OK {
		t.Fatalf("%q has no tree: %d, %d", src, at, e)
	}
	p, at, e := resolve.Program(tree)
	if e != api.OK {
		t.Fatalf("%q is no program: %d, %d", src, at, e)
	}
	return p
}

// list returns the statements of a body in order.
func list(body []api.Stmt) []api.Stmt {
	var all []api.Stmt
	for _, s := range body {
		all = append(all, s)
		all = append(all, list(s.Body)...)
		all = append(all, list(s.Else)...)
	}
	return all
}

func depthOf(body []api.Stmt) int {
	depth := 0
	for _, s := range body {
		depth = max(depth, 1+depthOf(s.Body), 1+depthOf(s.Else))
	}
	return depth
}

// referenceCheck is the error of a program.
func referenceCheck(p api.Program) api.Errno {
	if len(p.Procs) > 12 {
		return api.ErrMany
	}
	names := map[string]bool{}
	for _, q := range p.Procs {
		switch {
		case lexer.Name(q.Name) != api.OK:
			return api.ErrName
		case names[q.Name]:
			return api.ErrTwice
		}
		names[q.Name] = true
		if e := referenceHead(q); e != api.OK {
			return e
		}
		if q.Extern && len(q.Body)+len(q.Arrays)+len(q.Vars)-q.Params-q.Results > 0 {
			return api.ErrForm
		}
		if len(list(q.Body)) > 128 {
			return api.ErrMany
		}
		if depthOf(q.Body) > 16 {
			return api.ErrDeep
		}
		for _, s := range list(q.Body) {
			if e := referenceStmt(p, q, s); e != api.OK {
				return e
			}
		}
	}
	return api.OK
}

// referenceHead is the error of a procedure behind its name, up to its contract.
func referenceHead(q api.Proc) api.Errno {
	switch {
	case len(q.Vars) > 12:
		return api.ErrMany
	case q.Params < 0 || q.Results < 0 || float64(q.Params)+float64(q.Results) > float64(len(q.Vars)):
		return api.ErrShape
	}
	names := map[string]bool{}
	for _, v := range q.Vars {
		words := strings.Split(v, ".")
		if len(words) > 2 || lexer.Name(words[0]) != api.OK || lexer.Name(words[len(words)-1]) != api.OK {
			return api.ErrName
		}
		if names[v] {
			return api.ErrTwice
		}
		names[v] = true
	}
	if len(q.Arrays) > 4 {
		return api.ErrMany
	}
	for _, a := range q.Arrays {
		switch {
		case lexer.Name(a.Name) != api.OK:
			return api.ErrName
		case names[a.Name]:
			return api.ErrTwice
		case a.Len < 1 || a.Len > 32:
			return api.ErrRange
		}
		names[a.Name] = true
	}
	if e := cond.Check(q.Requires, q.Params); e != api.OK {
		return e
	}
	return cond.Check(q.Ensures, q.Params+q.Results)
}

// fields are the letters of the fields that operations use: Var, Array, Proc, Index, Expr, Cond, arGs, Results, Body, eLse.
var fields = []string{"VE", "V", "VAI", "AIE", "CBL", "CB", "C", "C", "PGR"}

// referenceStmt is the error of a statement.
func referenceStmt(p api.Program, q api.Proc, s api.Stmt) api.Errno {
	n := len(q.Vars)
	if s.Op < 0 || s.Op > 8 {
		return api.ErrArg
	}
	if s.At < 0 || s.At > 65536 {
		return api.ErrRange
	}
	has := func(letter string) bool { return strings.Contains(fields[s.Op], letter) }
	for letter, isZero := range map[string]bool{"V": s.Var == 0, "A": s.Array == 0, "P": s.Proc == 0, "I": fmt.Sprint(s.Index) == fmt.Sprint(api.Expr{}), "E": fmt.Sprint(s.Expr) == fmt.Sprint(api.Expr{}), "C": fmt.Sprint(s.Cond) == fmt.Sprint(api.Cond{}), "G": len(s.Args) == 0, "R": len(s.Results) == 0, "B": len(s.Body) == 0, "L": len(s.Else) == 0} {
		if !isZero && !has(letter) {
			return api.ErrForm
		}
	}
	if has("V") {
		if e := referenceTarget(q, s.Var); e != api.OK {
			return e
		}
	}
	if has("A") && (s.Array < 0 || s.Array >= len(q.Arrays)) {
		return api.ErrNone
	}
	if has("I") && expr.Check(s.Index, n) != api.OK {
		return expr.Check(s.Index, n)
	}
	if has("E") && expr.Check(s.Expr, n) != api.OK {
		return expr.Check(s.Expr, n)
	}
	if has("C") && cond.Check(s.Cond, n) != api.OK {
		return cond.Check(s.Cond, n)
	}
	if s.Op == api.StmtCall {
		return referenceCall(p, q, s)
	}
	return api.OK
}

func referenceTarget(q api.Proc, v int) api.Errno {
	if v < 0 || v >= len(q.Vars) {
		return api.ErrNone
	}
	if v < q.Params {
		return api.ErrUse
	}
	return api.OK
}

func referenceCall(p api.Program, q api.Proc, s api.Stmt) api.Errno {
	if s.Proc < 0 || s.Proc >= len(p.Procs) {
		return api.ErrNone
	}
	if len(s.Args) != p.Procs[s.Proc].Params {
		return api.ErrShape
	}
	for _, e := range s.Args {
		if fault := expr.Check(e, len(q.Vars)); fault != api.OK {
			return fault
		}
	}
	if len(s.Results) != p.Procs[s.Proc].Results {
		return api.ErrShape
	}
	seen := map[int]bool{}
	for _, v := range s.Results {
		if e := referenceTarget(q, v); e != api.OK {
			return e
		}
		if seen[v] {
			return api.ErrTwice
		}
		seen[v] = true
	}
	return api.OK
}

// reference executes a program by calls of itself. A run ends with a panic.
type reference struct {
	p      api.Program
	reads  []api.Int
	fuel   int
	depth  int
	result Result
}

type end struct{}

func (m *reference) end(outcome, check, at int) {
	m.result.Outcome, m.result.Check, m.result.At = outcome, check, at
	panic(end{})
}

func referenceExec(p api.Program, x api.Input, fuel int) (result Result) {
	m := &reference{p: p, reads: x.Reads, fuel: fuel}
	defer func() {
		if ended := recover(); ended != nil && ended != (end{}) {
			panic(ended)
		}
		result = m.result
	}()
	for i, q := range p.Procs {
		if q.Name == "main" {
			var args []*big.Int
			for _, a := range x.Args {
				args = append(args, bigOf(a))
			}
			vars := m.proc(i, args)
			m.result.Outcome = api.OutcomeDone
			for _, v := range vars {
				m.result.Vars = append(m.result.Vars, api.Int(v.String()))
			}
			return
		}
	}
	return
}

func bigOf(a api.Int) *big.Int {
	v, _ := new(big.Int).SetString(string(a), 10)
	return v
}

// proc executes a procedure, and returns its variables.
func (m *reference) proc(i int, args []*big.Int) []*big.Int {
	m.depth++
	q := m.p.Procs[i]
	vars := args
	for len(vars) < len(q.Vars) {
		vars = append(vars, new(big.Int))
	}
	arrays := map[[2]int]*big.Int{} // elements that were assigned
	m.body(q, q.Body, vars, arrays)
	m.depth--
	return vars
}

func (m *reference) body(q api.Proc, body []api.Stmt, vars []*big.Int, arrays map[[2]int]*big.Int) {
	for _, s := range body {
		for m.stmt(q, s, vars, arrays) {
		}
	}
}

// stmt executes a statement, and reports whether it has to be executed again.
func (m *reference) stmt(q api.Proc, s api.Stmt, vars []*big.Int, arrays map[[2]int]*big.Int) bool {
	if m.result.Used == m.fuel {
		m.end(api.OutcomeRunning, 0, 0)
	}
	m.result.Used++
	all := []api.Expr{s.Index, s.Expr} // those that are not used have no divisors
	all = append(append(all, exprsOf(s.Cond)...), s.Args...)
	for _, e := range all {
		m.divide(e, s.At, vars)
	}
	value := func(e api.Expr) *big.Int { return m.eval(e, vars) }
	element := [2]int{s.Array, 0}
	if s.Op == api.StmtLoad || s.Op == api.StmtStore {
		index := value(s.Index)
		if index.Sign() < 0 || index.Cmp(big.NewInt(int64(q.Arrays[s.Array].Len))) >= 0 {
			m.end(api.OutcomeFailed, api.CheckIndex, s.At)
		}
		element[1] = int(index.Int64())
	}
	switch s.Op {
	case api.StmtAssign:
		vars[s.Var] = value(s.Expr)
	case api.StmtInput:
		if m.result.Reads == len(m.reads) {
			m.end(api.OutcomeStarved, 0, 0)
		}
		vars[s.Var] = bigOf(m.reads[m.result.Reads])
		m.result.Reads++
	case api.StmtLoad:
		vars[s.Var] = new(big.Int)
		if v := arrays[element]; v != nil {
			vars[s.Var] = v
		}
	case api.StmtStore:
		arrays[element] = value(s.Expr)
	case api.StmtCall:
		m.call(s, vars)
	default:
		return m.test(q, s, vars, arrays)
	}
	return false
}

// test executes a statement with a condition.
func (m *reference) test(q api.Proc, s api.Stmt, vars []*big.Int, arrays map[[2]int]*big.Int) bool {
	var values []*big.Int
	for _, e := range exprsOf(s.Cond) {
		values = append(values, m.eval(e, vars))
	}
	holds, _ := truth(s.Cond, values)
	switch {
	case s.Op == api.StmtIf && holds:
		m.body(q, s.Body, vars, arrays)
	case s.Op == api.StmtIf:
		m.body(q, s.Else, vars, arrays)
	case s.Op == api.StmtWhile && holds:
		m.body(q, s.Body, vars, arrays)
		return true
	case s.Op == api.StmtAssert && !holds:
		m.end(api.OutcomeFailed, api.CheckAssert, s.At)
	case s.Op == api.StmtAssume && !holds:
		m.end(api.OutcomeBlocked, 0, 0)
	}
	return false
}

func (m *reference) call(s api.Stmt, vars []*big.Int) {
	var args []*big.Int
	for _, e := range s.Args {
		args = append(args, m.eval(e, vars))
	}
	if m.depth == 32 {
		m.end(api.OutcomeDeep, 0, 0)
	}
	results := m.proc(s.Proc, args)
	for i, v := range s.Results {
		vars[v] = results[m.p.Procs[s.Proc].Params+i]
	}
}

// divide evaluates the divisors of an expression: those of the operands first.
func (m *reference) divide(e api.Expr, at int, vars []*big.Int) {
	for _, a := range e.Args {
		m.divide(a, at, vars)
	}
	if (e.Op == api.ExprDiv || e.Op == api.ExprMod) && m.eval(e.Args[1], vars).Sign() == 0 {
		m.end(api.OutcomeFailed, api.CheckDivide, at)
	}
}

// eval returns the value of an expression whose divisors are not 0.
func (m *reference) eval(e api.Expr, vars []*big.Int) *big.Int {
	var values []*big.Int
	for _, a := range e.Args {
		values = append(values, m.eval(a, vars))
	}
	out := new(big.Int)
	switch e.Op {
	case api.ExprNum:
		return bigOf(e.Num)
	case api.ExprVar:
		return vars[e.Var]
	case api.ExprNeg:
		out.Neg(values[0])
	case api.ExprAdd:
		out.Add(values[0], values[1])
	case api.ExprSub:
		out.Sub(values[0], values[1])
	case api.ExprMul:
		out.Mul(values[0], values[1])
	case api.ExprDiv:
		q, _ := bigint.Quo(api.Int(values[0].String()), api.Int(values[1].String()))
		out = bigOf(q)
	case api.ExprMod:
		r, _ := bigint.Rem(api.Int(values[0].String()), api.Int(values[1].String()))
		out = bigOf(r)
	}
	if len(strings.TrimPrefix(out.String(), "-")) > 100 {
		m.end(api.OutcomeLarge, 0, 0)
	}
	return out
}

// exprsOf returns all expressions of a condition.
func exprsOf(c api.Cond) []api.Expr {
	all := append([]api.Expr{}, c.Exprs...)
	for _, a := range c.Args {
		all = append(all, exprsOf(a)...)
	}
	return all
}

// truth returns the truth of a condition by the values of its expressions, and the values behind them.
func truth(c api.Cond, values []*big.Int) (bool, []*big.Int) {
	if len(c.Exprs) == 2 {
		order := values[0].Cmp(values[1])
		return map[int]bool{api.CondEq: order == 0, api.CondNe: order != 0, api.CondLt: order < 0, api.CondLe: order <= 0}[c.Op], values[2:]
	}
	var truths []bool
	for _, a := range c.Args {
		var holds bool
		holds, values = truth(a, values)
		truths = append(truths, holds)
	}
	switch c.Op {
	case api.CondNot:
		return !truths[0], values
	case api.CondAnd:
		return truths[0] && truths[1], values
	case api.CondOr:
		return truths[0] || truths[1], values
	}
	return c.Op == api.CondTrue, values
}
