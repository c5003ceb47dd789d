package run

import (
	"fmt"
	"math/rand"
	"strings"
	"testing"

	"surveyor/api"
	"surveyor/program"
	"surveyor/step"
)

// This file has random programs as texts. Their procedures have the variables n, r, s and t, of which n is a parameter and r a result, and the array a.

type generator struct{ *rand.Rand }

func (g generator) pick(list ...string) string { return list[g.Intn(len(list))] }

func (g generator) expr(depth int) string {
	if depth <= 1 || g.Intn(3) == 0 {
		return g.pick("n", "n", "r", "s", "t", "0", "1", "2", "-3", "7", "N")
	}
	return "(" + g.expr(depth-1) + " " + g.pick("+", "+", "-", "*", "/", "%") + " " + g.expr(depth-1) + ")"
}

func (g generator) cond(depth int) string {
	if depth <= 1 || g.Intn(3) > 0 {
		return g.expr(2) + " " + g.pick("=", "!=", "<", "<=") + " " + g.expr(2)
	}
	return g.pick("not ", "") + "(" + g.cond(depth-1) + g.pick(" and ", " or ") + g.cond(depth-1) + ")"
}

// body returns statements, at least one for each level.
func (g generator) body(depth int) string {
	var out strings.Builder
	for range depth + g.Intn(3) {
		target := g.pick("r", "s", "t")
		switch g.Intn(10) {
		case 0:
			out.WriteString(target + " := input; ")
		case 1:
			out.WriteString(target + " := a[" + g.pick("s", "1", g.expr(2)) + "]; ")
		case 2:
			out.WriteString("a[" + g.pick("t", "2", g.expr(2)) + "] := " + g.expr(2) + "; ")
		case 3:
			out.WriteString(g.pick("assert ", "assume ") + g.expr(2) + " != " + g.expr(2) + "; ")
		case 4:
			out.WriteString(target + " := main(" + g.pick("n - 1", g.expr(2)) + "); ")
		case 5:
			out.WriteString(target + " := f(" + g.expr(2) + "); ")
		case 6:
			if depth > 1 {
				out.WriteString("if " + g.cond(2) + " { " + g.body(depth-1) + "} else { " + g.body(depth-1) + "} ")
			}
		case 7:
			if depth > 1 {
				out.WriteString("while t < " + g.pick("n", "3", "5") + " { " + g.body(depth-1) + "t := t + 1; } ")
			}
		default:
			out.WriteString(target + " := " + g.expr(3) + "; ")
		}
	}
	return out.String()
}

// program returns the text of a program in which calls of main end, mostly.
func (g generator) program() string {
	const head = "(n) returns (r) { var s, t; array a[4]; "
	return "proc main" + head + "if n > 0 { " + g.body(3) + "} " + g.body(1) + "} proc f" + head + g.body(2) + "} "
}

func (g generator) numbers(n int) []api.Int {
	var list []api.Int
	for range n {
		list = append(list, api.Int(fmt.Sprint(g.Intn(8)-2)))
	}
	return list
}

// TestP18_3Random checks the consequences, and compares runs along graphs with those by structure.
func TestP18_3Random(t *testing.T) {
	g := generator{rand.New(rand.NewSource(18))}
	seen := map[int]int{}
	for range 150 {
		src := g.program()
		p, graphs := built(t, src)
		for range 3 {
			x := api.Input{Args: g.numbers(1), Reads: g.numbers(g.Intn(4))}
			steps := 100 + g.Intn(100)
			c, v := wantRun(t, src, p, graphs, x, steps)
			seen[v.Outcome]++
			wantBounds(t, g, src, p, graphs, x, steps)
			wantReads(t, g, src, p, graphs, x, steps)
			wantStructure(t, src, p, graphs, x, c, v)
		}
	}
	if len(seen) != 7 {
		t.Errorf("not all outcomes have occurred: %v", seen)
	}
}

// wantBounds checks that a run is the beginning of those with greater bounds, and goes on where another one ended.
func wantBounds(t *testing.T, g generator, src string, p api.Program, graphs []api.Graph, x api.Input, steps int) {
	t.Helper()
	what := fmt.Sprintf("%s with %v and %d", src, x, steps)
	all, _ := Trace(p, graphs, x, steps)
	last, event, count, e := Run(p, graphs, x, steps)
	want(t, "the number of configurations of "+what, len(all), count+1, e, api.OK)
	bound := g.Intn(count + 2)
	part, _ := Trace(p, graphs, x, bound)
	want(t, fmt.Sprintf("the first %d steps of %s", bound, what), part, all[:min(bound+1, len(all))], 0, 0)
	middle, _, made, _ := Run(p, graphs, x, bound)
	end, again, rest, e := Resume(p, graphs, middle, x.Reads, steps-made)
	want(t, fmt.Sprintf("%s, resumed behind %d steps", what, made), []any{end, again, made + rest}, []any{last, event, count}, e, api.OK)
}

// wantReads checks that numbers that are not read do not matter.
func wantReads(t *testing.T, g generator, src string, p api.Program, graphs []api.Graph, x api.Input, steps int) {
	t.Helper()
	last, event, count, _ := Run(p, graphs, x, steps)
	what := fmt.Sprintf("%s with %v and %d", src, x, steps)
	for _, reads := range [][]api.Int{x.Reads[:last.Reads], append(x.Reads[:last.Reads:last.Reads], g.numbers(3)...)} {
		c, v, n, e := Run(p, graphs, api.Input{Args: x.Args, Reads: reads}, steps)
		if event.Outcome != api.OutcomeStarved {
			want(t, "other reads of "+what, []any{c, v, n}, []any{last, event, count}, e, api.OK)
		} else if len(reads) > last.Reads && (n <= count || v.Outcome == api.OutcomeStarved && c.Reads <= last.Reads) {
			t.Errorf("%s is starved with further reads, too", what)
		}
	}
}

// wantStructure compares the end of a run with that of the run by structure, where both end.
func wantStructure(t *testing.T, src string, p api.Program, graphs []api.Graph, x api.Input, c api.Config, v step.Event) {
	t.Helper()
	result, e := program.Exec(p, x, api.MaxSteps)
	if v.Outcome == api.OutcomeRunning {
		return
	}
	wanted := program.Result{Outcome: v.Outcome, Check: v.Check, Reads: c.Reads, Used: result.Used}
	if v.Outcome == api.OutcomeFailed {
		wanted.At = graphs[innermost(c).Proc].Edges[v.Edge].Command.At
	}
	if v.Outcome == api.OutcomeDone {
		wanted.Vars = c.Frames[0].Vars
	}
	want(t, fmt.Sprintf("the run by structure of %s with %v", src, x), result, wanted, e, api.OK)
}
