package program

import (
	"fmt"
	"strings"
	"testing"

	"surveyor/api"
)

// ints returns the numbers of a text.
func ints(text string) []api.Int {
	var list []api.Int
	for _, word := range strings.Fields(strings.ReplaceAll(text, "N", string(nines))) {
		list = append(list, api.Int(word))
	}
	return list
}

// outcomes are the outcomes by their names, with the kinds of checks that fail.
var outcomes = map[string][2]int{"running": {api.OutcomeRunning}, "done": {api.OutcomeDone}, "assert": {api.OutcomeFailed, api.CheckAssert}, "divide": {api.OutcomeFailed, api.CheckDivide}, "index": {api.OutcomeFailed, api.CheckIndex}, "blocked": {api.OutcomeBlocked}, "starved": {api.OutcomeStarved}, "large": {api.OutcomeLarge}, "deep": {api.OutcomeDeep}}

// wantRun checks a run of a text in which @ stands before the statement that fails.
func wantRun(t *testing.T, src, args, reads string, fuel int, outcome string, used, read1 int, vars string) {
	t.Helper()
	at := max(strings.Index(src, "@"), 0)
	p := read(t, strings.Replace(src, "@", "", 1))
	x := api.Input{Args: ints(args), Reads: ints(reads)}
	wanted := Result{Outcome: outcomes[outcome][0], Check: outcomes[outcome][1], At: at, Reads: read1, Used: used, Vars: ints(vars)}
	result, e := Exec(p, x, fuel)
	want(t, fmt.Sprintf("Exec of %s with %s, %s and %d", src, args, reads, fuel), result, wanted, e, api.OK)
	want(t, "reference", referenceExec(p, x, fuel), wanted, 0, 0)
}

func TestP14_2Examples(t *testing.T) {
	sum := "proc main(n) returns (s) { var i; while i < n { i := i + 1; s := s + i; } assert s >= 0; }"
	wantRun(t, sum, "3", "", 11, "done", 11, 0, "3 6 3")
	wantRun(t, sum, "3", "", 8192, "done", 11, 0, "3 6 3")
	wantRun(t, sum, "3", "", 10, "running", 10, 0, "")
	store := "proc main(n) { array a[2]; @a[n] := 10 / n; }"
	wantRun(t, store, "0", "", 5, "divide", 1, 0, "")
	wantRun(t, store, "2", "", 5, "index", 1, 0, "")
	wantRun(t, store, "-1", "", 5, "index", 1, 0, "")
	wantRun(t, strings.Replace(store, "@", "", 1), "1", "", 5, "done", 1, 0, "1")
	wantRun(t, "proc main() { main(); }", "", "", 100, "deep", 32, 0, "")
}

// TestP14_2Fuel has the units that statements use.
func TestP14_2Fuel(t *testing.T) {
	wantRun(t, "proc main() { }", "", "", 0, "done", 0, 0, "")
	wantRun(t, "proc main() { assert true; }", "", "", 0, "running", 0, 0, "")
	wantRun(t, "proc main() { assert true; }", "", "", 1, "done", 1, 0, "")
	for _, c := range []struct {
		body string
		used int
		vars string // of main(n) returns (s)
	}{
		{"", 0, "2 0"}, {"s := 5;", 1, "2 5"}, {"s := 5; s := s + n;", 2, "2 7"}, {"if n = 2 { }", 1, "2 0"}, {"if n = 2 { s := 1; }", 2, "2 1"}, {"if n != 2 { s := 1; }", 1, "2 0"}, {"if n != 2 { s := 1; } else { s := 2; s := 3; }", 3, "2 3"}, {"if n = 2 { s := 1; } else { s := 2; s := 3; }", 2, "2 1"}, {"if n = 1 { } else if n = 2 { s := 4; } else { s := 5; }", 3, "2 4"},
		{"while n = 1 { }", 1, "2 0"}, {"while s < n { s := s + 1; }", 5, "2 2"}, {"while s < n { s := s + 1; s := s + 1; }", 4, "2 2"}, {"while s < n { while s < n { s := s + 1; } }", 7, "2 2"}, {"while s < 4 { if s = 2 { s := 4; } else { s := s + 1; } }", 10, "2 4"}, {"while s < n { s := s + 1; } while s < 4 { s := s + 1; }", 10, "2 4"}, {"if n = 2 { while s < 1 { if true { s := s + 1; } } }", 5, "2 1"},
		{"assert n = 2; assume n = 2;", 2, "2 0"}, {"f();", 1, "2 0"}, {"f(); f();", 2, "2 0"}, {"g();", 3, "2 0"}, {"s := h(n);", 3, "2 5"}, {"s := h(n); s := h(s);", 6, "2 8"},
	} {
		src := "proc f() { } proc g() { f(); f(); } proc h(x) returns (y) { y := x + 1; y := y + 2; } proc main(n) returns (s) { " + c.body + " }"
		for fuel := range c.used {
			wantRun(t, src, "2", "", fuel, "running", fuel, 0, "")
		}
		wantRun(t, src, "2", "", c.used, "done", c.used, 0, c.vars)
		wantRun(t, src, "2", "", 8192, "done", c.used, 0, c.vars)
	}
	wantRun(t, "proc main() { while true { } }", "", "", 8192, "running", 8192, 0, "")
	wantRun(t, "proc main() { while true { if true { } } }", "", "", 8192, "running", 8192, 0, "")
	wantRun(t, "proc main() returns (s) { while true { s := s + 1; } }", "", "", 8191, "running", 8191, 0, "")
}

// TestP14_2Statements has what statements do.
func TestP14_2Statements(t *testing.T) {
	for _, c := range []struct {
		body, args, reads string // of main(a, b) returns (r, s), with u, v and the arrays p and q
		outcome           string
		used, read        int
		vars              string
	}{
		{"", "1 2", "", "done", 0, 0, "1 2 0 0 0 0"}, {"r := a - 2 * b; u := r; v := -u;", "1 2", "", "done", 3, 0, "1 2 -3 0 -3 3"}, {"r := -7 / a; s := -7 % a; u := 7 / -a; v := 7 % -a;", "2 0", "", "done", 4, 0, "2 0 -4 1 -4 -1"}, {"r := N; s := -N;", "N -N", "", "done", 2, 0, "N -N N -N 0 0"},
		{"r := input; s := input;", "0 0", "5 -6 7", "done", 2, 2, "0 0 5 -6 0 0"}, {"r := input; s := input;", "0 0", "5 N", "done", 2, 2, "0 0 5 N 0 0"}, {"r := input; s := input;", "0 0", "5", "starved", 2, 1, ""}, {"r := input;", "0 0", "", "starved", 1, 0, ""},
		{"p[a] := b; r := p[a]; s := p[b];", "0 1", "", "done", 3, 0, "0 1 1 0 0 0"}, {"p[0] := 5; p[1] := 6; q[0] := 7; r := p[0]; s := p[1]; u := q[0]; v := q[31];", "0 0", "", "done", 7, 0, "0 0 5 6 7 0"},
		{"q[31] := 8; q[30 + 1] := 9; r := q[31]; s := q[30];", "0 0", "", "done", 4, 0, "0 0 9 0 0 0"}, {"while u < 32 { q[u] := u * u; u := u + 1; } r := q[5]; s := q[31];", "0 0", "", "done", 99, 0, "0 0 25 961 32 0"},
		{"@r := p[2];", "0 0", "", "index", 1, 0, ""}, {"@r := p[-1];", "0 0", "", "index", 1, 0, ""}, {"@p[a] := 1;", "2 0", "", "index", 1, 0, ""}, {"@p[a] := 1;", "-1 0", "", "index", 1, 0, ""}, {"@q[a] := 1;", "32 0", "", "index", 1, 0, ""}, {"@q[a] := 1;", "N 0", "", "index", 1, 0, ""}, {"@r := q[a];", "-N 0", "", "index", 1, 0, ""}, {"@r := q[1048577];", "0 0", "", "index", 1, 0, ""}, {"@r := q[4294967296];", "0 0", "", "index", 1, 0, ""}, {"@r := q[18446744073709551616];", "0 0", "", "index", 1, 0, ""},
		{"assert a = b; @assert a != b;", "1 1", "", "assert", 2, 0, ""}, {"assert a = b; r := 3;", "1 1", "", "done", 2, 0, "1 1 3 0 0 0"}, {"@assert false;", "1 1", "", "assert", 1, 0, ""}, {"assume a = b; r := 3;", "1 1", "", "done", 2, 0, "1 1 3 0 0 0"}, {"assume a != b; assert false;", "1 1", "", "blocked", 1, 0, ""}, {"r := input; assume r = 5; @assert r = 6;", "0 0", "5", "assert", 3, 1, ""},
		{"if a < b { r := 1; } else { s := 1; } if b < a { u := 1; } else { v := 1; }", "1 2", "", "done", 4, 0, "1 2 1 0 0 1"}, {"while a < 3 { @assert a != b; if r = 4 { assume false; } r := r + 1; }", "2 2", "", "assert", 2, 0, ""}, {"while a < 3 { assert a != b; if r = 4 { assume false; } r := r + 1; }", "2 1", "", "blocked", 20, 0, ""},
	} {
		body := strings.ReplaceAll(c.body, "N", string(nines))
		wantRun(t, "proc main(a, b) returns (r, s) { var u, v; array p[2]; array q[32]; "+body+" }", c.args, c.reads, 1000, c.outcome, c.used, c.read, c.vars)
	}
}

// TestP14_2Order has statements in which several things are wrong: divisors come first, in their order, then the index, then values.
func TestP14_2Order(t *testing.T) {
	for _, c := range []struct{ body, outcome string }{ // n * n is too long
		{"r := n * n;", "large"}, {"r := -(n * n - n * n);", "large"}, {"r := 0 * (n + 1);", "large"}, {"r := n; r := -n; r := n - 1;", "done"}, {"r := -n; r := r - 1;", "large"}, {"r := n * -1; r := r / -1;", "done"}, {"r := 1 / 0;", "divide"}, {"r := 0 % r;", "divide"}, {"r := 1 / 1 + 1 % (2 - 2);", "divide"}, {"r := 5 / (1 - r);", "done"},
		{"r := n * n / 0;", "divide"}, {"r := n * n + 1 / 0;", "divide"}, {"r := 1 / (n * n);", "large"}, {"r := 1 / (n * n) + 1 / 0;", "large"}, {"r := 1 / 0 + 1 / (n * n);", "divide"}, {"r := 1 / (1 / 0);", "divide"}, {"r := 1 / (n * n / 0);", "divide"}, {"r := 1 / (1 / (n * n));", "large"}, {"r := (1 / r) / (n * n);", "divide"}, {"r := 1 / (1 / 2);", "divide"}, {"r := n % (n * n % 5);", "large"}, {"r := 0 / (r + 1) * n * n;", "done"},
		{"a[5] := n * n;", "index"}, {"a[n * n] := 1;", "large"}, {"a[n * n] := 1 / 0;", "divide"}, {"a[5] := 1 / 0;", "divide"}, {"a[5] := 1 / (n * n);", "large"}, {"a[1 / 0] := 1 / (n * n);", "divide"}, {"a[1 / (n * n)] := 1 / 0;", "large"}, {"a[0] := n * n;", "large"}, {"a[n] := n * n;", "index"}, {"a[7 / 2] := 1;", "index"}, {"r := a[n * n];", "large"}, {"r := a[1 / 0];", "divide"}, {"r := a[n / 0 + n * n];", "divide"}, {"r := a[-1 / 2];", "index"}, {"r := a[1 / 2];", "done"},
		{"assert 1 / 0 = 1;", "divide"}, {"assert n * n = 1 / 0;", "divide"}, {"assert n * n = 1 / (n * n) or 1 / 0 = 0;", "large"}, {"assert true or n * n = 1;", "large"}, {"assert false and n * n = 1;", "large"}, {"assert 1 = 1 or 1 % 0 = 1;", "divide"}, {"assert r = 1 and 1 / (r - 1) = 0;", "assert"}, {"assert r = 1 and 1 / r = 0;", "divide"},
		{"assume 1 / 0 = 1;", "divide"}, {"assume false and n * n = 1;", "large"}, {"assume 1 / 2 = 1;", "blocked"}, {"if 1 / r = 1 { }", "divide"}, {"if n * n = 1 { }", "large"}, {"if not (true or 1 / r = 1) { } else { }", "divide"}, {"while n * n = 1 { }", "large"}, {"while r < 3 { r := r + 3; }", "done"}, {"while 1 / r = 1 { }", "divide"},
		{"f(1 / 0, 1);", "divide"}, {"f(1, 1 / 0);", "divide"}, {"f(n * n, 1 / 0);", "divide"}, {"f(1 / (n * n), 1 / 0);", "large"}, {"f(1 / 0, 1 / (n * n));", "divide"}, {"f(n * n, 1);", "large"}, {"f(1, n + 1);", "large"}, {"f(n, -n);", "done"},
	} {
		src := "proc f(x, y) { } proc main(n) returns (r) { array a[2]; @" + c.body + " }"
		if outcomes[c.outcome][1] == 0 {
			src = strings.Replace(src, "@", "", 1)
		}
		p := read(t, strings.Replace(src, "@", "", 1))
		x := api.Input{Args: []api.Int{nines}}
		result, e := Exec(p, x, 1000)
		want(t, "Exec of "+c.body, [3]int{result.Outcome, result.Check, result.At}, [3]int{outcomes[c.outcome][0], outcomes[c.outcome][1], max(strings.Index(src, "@"), 0)}, e, api.OK)
		want(t, "reference of "+c.body, result, referenceExec(p, x, 1000), 0, 0)
	}
	// In the second round of a loop, at the offset of the loop.
	wantRun(t, "proc main() { var i; i := 1; @while 4 / i > 0 { i := i - 1; } }", "", "", 100, "divide", 4, 0, "")
}

// TestP14_2Calls has parameters, results, arrays and frames.
func TestP14_2Calls(t *testing.T) {
	factorial := "proc fac(n) returns (r) { var k; r := 1; if n > 1 { k := fac(n - 1); r := n * k; } } proc main(n) returns (r) { r := fac(n); }"
	wantRun(t, factorial, "5", "", 100, "done", 19, 0, "5 120")
	wantRun(t, factorial, "31", "", 200, "done", 123, 0, "31 8222838654177922817725562880000000")
	wantRun(t, factorial, "32", "", 200, "deep", 94, 0, "")
	wantRun(t, factorial, "33", "", 93, "running", 93, 0, "")
	for _, c := range []struct {
		src, args, reads, outcome string
		used, read                int
		vars                      string
	}{
		// Results are assigned in their order; parameters, other variables and arrays are new in each call.
		{"proc f(x, y) returns (a, b) { a := y; b := x; } proc main(p, q) returns (r, s) { s, r := f(p, q); }", "1 2", "", "done", 3, 0, "1 2 1 2"}, {"proc f(x) returns (a, b) { a := x; } proc main() returns (r, s) { r := 5; s := 6; r, s := f(r + s); }", "", "", "done", 4, 0, "11 0"},
		{"proc f(x) returns (a) { var k; a := k + x; k := 7; a := a + 0; } proc main() returns (r, s) { r := f(1); s := f(2); }", "", "", "done", 8, 0, "1 2"}, {"proc f(x) returns (a) { array t[2]; a := t[x]; t[x] := 9; } proc main() returns (r, s) { array t[2]; t[1] := 4; r := f(1); s := f(1); s := t[1]; }", "", "", "done", 8, 0, "0 4"},
		{"proc f(x) returns (a) { var k; array t[2]; t[0] := x; if x > 0 { k := f(x - 1); } a := t[0]; a := a + 10 * k; } proc main() returns (r) { r := f(3); }", "", "", "done", 20, 0, "123"},
		{"proc main(n) returns (r, s) { var k; s := n; if n > 0 { r, k := main(n - 1); r := r + k; } }", "3", "", "done", 14, 0, "3 3 3 2"},
		// Numbers are read in the order of the run.
		{"proc f() returns (a) { a := input; } proc main() returns (r, s, u) { r := input; s := f(); u := input; }", "", "3 4 5 6", "done", 4, 3, "3 4 5"}, {"proc f() returns (a) { a := input; } proc main() returns (r, s, u) { r := input; s := f(); u := input; }", "", "3", "starved", 3, 1, ""},
		// A run ends in calls, too.
		{"proc f(x) { @assert x != 2; } proc main() { f(1); f(2); f(3); }", "", "", "assert", 4, 0, ""}, {"proc f(x) returns (y) { array a[2]; @y := a[x]; } proc main() returns (r) { r := f(0); r := f(5); }", "", "", "index", 4, 0, ""}, {"proc f(x) returns (y) { @y := 1 / x; } proc g(x) { var k; k := f(x); } proc main() { g(1); g(0); }", "", "", "divide", 6, 0, ""}, {"proc f(x) { assume x < 1; } proc main() { f(0); f(1); f(2); }", "", "", "blocked", 4, 0, ""}, {"proc main() { f(0); assert false; } proc f(x) { while true { } }", "", "", "running", 50, 0, ""}, {"proc f(x) returns (y) { y := x * 100; y := f(y); } proc main(n) returns (r) { r := f(n); }", "N", "", "large", 2, 0, ""},
		// Contracts are not checked.
		{"proc f(x) returns (y) requires x = 0 ensures y = 1 { y := x; } proc main(n) returns (r) requires false ensures false { r := f(n); }", "7", "", "done", 2, 0, "7 7"}, {"proc f(x) requires 1 / x = 0 { } proc main() { f(0); }", "", "", "done", 1, 0, ""},
		// Arguments come before the frame, and the frame before the statements of the procedure.
		{"proc f(n) { if n < 31 { f(n + 1); } } proc main() { f(1); }", "", "", "done", 62, 0, ""}, {"proc f(n) { if n < 32 { f(n + 1); } } proc main() { f(1); }", "", "", "deep", 63, 0, ""}, {"proc f(n, k) { if n < 31 { f(n + 1, k); } else { f(n, k + 1); } } proc main() { f(1, N); }", "", "", "large", 63, 0, ""}, {"proc f(n) { if n < 31 { f(n + 1); } else { @f(n / (n - 31)); } } proc main() { f(1); }", "", "", "divide", 63, 0, ""},
		{"proc f(n) { if n > 0 { f(n - 1); } } proc main() { f(30); f(30); f(30); }", "", "", "done", 186, 0, ""},
	} {
		fuel := 1000
		if c.outcome == "running" {
			fuel = c.used
		}
		src := strings.ReplaceAll(c.src, "N", string(nines))
		wantRun(t, src, c.args, c.reads, fuel, c.outcome, c.used, c.read, c.vars)
	}
}

// TestMemory changes arguments and results behind calls, and calls with the same arguments again (P1).
func TestMemory(t *testing.T) {
	src := "proc f(x) returns (y) { array a[2]; a[0] := x; y := a[0]; } proc main(n) returns (r) { var i; while i < 2 { i := i + 1; r := f(n); n0(); } i := input; } proc n0() { }"
	p := read(t, src)
	x := api.Input{Args: ints("4"), Reads: ints("5 6")}
	result, e := Exec(p, x, 100)
	want(t, "Exec", result.Vars, ints("4 4 5"), e, api.OK)
	want(t, "the program", fmt.Sprintf("%+v", p), fmt.Sprintf("%+v", read(t, src)), 0, 0)
	want(t, "the input", x, api.Input{Args: ints("4"), Reads: ints("5 6")}, 0, 0)
	result.Vars[0], result.Vars[2] = "77", "77"
	again, e := Exec(p, x, 100)
	want(t, "Exec", again.Vars, ints("4 4 5"), e, api.OK)
	x.Args[0], x.Reads[0] = "88", "88"
	want(t, "the result", again.Vars, ints("4 4 5"), 0, 0)
	// A main without other variables than its parameters has new memory, too.
	args := ints("1 2")
	result, _ = Exec(read(t, "proc main(a, b) { }"), api.Input{Args: args}, 0)
	args[0] = "3"
	want(t, "the result", result.Vars, ints("1 2"), 0, 0)
	called, _ := Calls(p, 1)
	called[0] = 9
	called, _ = Calls(p, 1)
	want(t, "Calls", called, []int{0, 2}, 0, 0)
}
