package run

import (
	"fmt"
	"slices"
	"strings"
	"testing"

	"surveyor/api"
	"surveyor/step"
)

const sum = "proc main(n) returns (s) { var i; while i < n { i := i + 1; s := s + i; } assert s != 3; }"

func TestP18_1Examples(t *testing.T) {
	p, g := built(t, sum)
	three, two := api.Input{Args: ints("3")}, api.Input{Args: ints("2")}
	done := api.Config{Frames: []api.Frame{{Point: g[0].Exit, Vars: ints("3 6 3")}}}
	for steps := 16; steps <= api.MaxSteps; steps *= 2 {
		c, v, count, e := Run(p, g, three, steps)
		want(t, "Run with 3", []any{c, v, count}, []any{done, step.Event{Outcome: api.OutcomeDone, Edge: -1}, 15}, e, api.OK)
		list, e := Trace(p, g, three, steps)
		want(t, "Trace with 3", []any{len(list), list[0], list[15]}, []any{16, api.Config{Frames: []api.Frame{{Vars: ints("3 0 0")}}}, done}, e, api.OK)
		numbers, ok, e := Results(p, g, three, steps)
		want(t, "Results with 3", []any{numbers, ok}, []any{ints("6"), true}, e, api.OK)
		_, v, count, e = Run(p, g, two, steps)
		want(t, "Run with 2", []any{v, count}, []any{step.Event{Outcome: api.OutcomeFailed, Check: api.CheckAssert, Edge: 6}, 10}, e, api.OK)
		spot, ok, e := Fails(p, g, two, steps)
		want(t, "Fails with 2", []any{spot, ok}, []any{api.Spot{Edge: 6}, true}, e, api.OK)
	}
	visits, e := Visits(p, g, three, 5)
	want(t, "Visits with 3", visits, [][]int{{1, 2, 1, 1, 1, 0, 0}}, e, api.OK)
	frames, e := At(p, g, three, 5, api.Spot{Edge: 1})
	want(t, "At with 3", frames, []api.Frame{{Point: 1, Vars: ints("3 0 0")}, {Point: 1, Vars: ints("3 1 1")}}, e, api.OK)
	// The bound is reached where the next step would end the run.
	c, v, count, e := Run(p, g, three, 15)
	want(t, "Run with 3", []any{c, v, count}, []any{done, step.Event{Edge: -1}, 15}, e, api.OK)
	_, ok, e := Results(p, g, three, 15)
	want(t, "Results with 3", ok, false, e, api.OK)
	_, v, count, e = Run(p, g, two, 10)
	want(t, "Run with 2", []any{v, count}, []any{step.Event{Edge: -1}, 10}, e, api.OK)
	spot, ok, e := Fails(p, g, two, 10)
	want(t, "Fails with 2", []any{spot, ok}, []any{api.Spot{}, false}, e, api.OK)
}

// endings are programs with inputs, and how they end: with a number of steps, and the spot that fails, or the results.
var endings = []struct {
	src, args, reads string
	outcome, steps   int
	check            int
	spot             api.Spot
	results          string
}{
	{src: "proc main() { }", outcome: api.OutcomeDone},
	{src: "proc main(a, b) returns (q, r) { var k; q := a; r := -b; k := 9; }", args: "1 2", outcome: api.OutcomeDone, steps: 3, results: "1 -2"},
	{src: "proc f() { } proc main() returns (s) { f(); s := 4; }", outcome: api.OutcomeDone, steps: 3, results: "4"},
	{src: "proc f(x) returns (y) { y := 6 / x; } proc main(n) returns (s) { s := f(n); s := f(n - 1); }", args: "1", outcome: api.OutcomeFailed, steps: 5, check: api.CheckDivide, spot: api.Spot{Proc: 0, Edge: 0}},
	{src: "proc f(x) { } proc main(n) { array a[2]; f(n); a[n] := 1; }", args: "2", outcome: api.OutcomeFailed, steps: 2, check: api.CheckIndex, spot: api.Spot{Proc: 1, Edge: 1}},
	{src: "proc main(n) returns (s) { s := n; assume s < n; }", args: "2", outcome: api.OutcomeBlocked, steps: 1},
	{src: "proc main() returns (s) { s := input; s := input; s := input; }", reads: "5 6", outcome: api.OutcomeStarved, steps: 2},
	{src: "proc main() returns (s) { s := input; s := input; }", reads: "5 6 7", outcome: api.OutcomeDone, steps: 2, results: "6"},
	{src: "proc main(n) returns (s) { s := n; s := s + 1; }", args: "N", outcome: api.OutcomeLarge, steps: 1},
	{src: "proc main() { main(); }", outcome: api.OutcomeDeep, steps: 31},
	{src: "proc main(n) returns (s) { if n > 0 { s := main(n - 1); } s := s + n; }", args: "4", outcome: api.OutcomeDone, steps: 23, results: "10"},
	{src: "proc main() { while true { } }", outcome: api.OutcomeRunning, steps: api.MaxSteps},
}

func TestP18_1Endings(t *testing.T) {
	for _, c := range endings {
		p, g := built(t, c.src)
		x := api.Input{Args: ints(c.args), Reads: ints(c.reads)}
		last, v, count, e := Run(p, g, x, api.MaxSteps)
		want(t, "Run of "+c.src, []int{v.Outcome, v.Check, count}, []int{c.outcome, c.check, c.steps}, e, api.OK)
		spot, failed, e := Fails(p, g, x, api.MaxSteps)
		want(t, "Fails of "+c.src, []any{spot, failed}, []any{c.spot, c.outcome == api.OutcomeFailed}, e, api.OK)
		results, done, e := Results(p, g, x, api.MaxSteps)
		want(t, "Results of "+c.src, []any{results, done}, []any{ints(c.results), c.outcome == api.OutcomeDone}, e, api.OK)
		list, e := Trace(p, g, x, api.MaxSteps)
		want(t, "Trace of "+c.src, []any{len(list), list[len(list)-1]}, []any{c.steps + 1, last}, e, api.OK)
		if c.outcome == api.OutcomeRunning {
			continue
		}
		// The run ends in the same way with the least bound, but it goes on with one less.
		for bound := range c.steps + 2 {
			wantRun(t, c.src, p, g, x, bound)
			_, event, count, _ := Run(p, g, x, bound)
			if bound <= c.steps {
				want(t, "Run of "+c.src, []any{event, count}, []any{step.Event{Edge: -1}, bound}, 0, 0)
			} else {
				want(t, "Run of "+c.src, []any{event, count}, []any{v, c.steps}, 0, 0)
			}
		}
	}
}

// odd returns a program with graphs that are not built: they fail at an assignment and at an assumption, and have edges at the exit.
func odd(t *testing.T) (api.Program, []api.Graph) {
	t.Helper()
	p, g := built(t, "proc main(n) returns (s) { if 6 / n = 2 { s := 5 / (n - 3); } }")
	g[0].Edges = slices.DeleteFunc(g[0].Edges, func(e api.Edge) bool { return e.Command.Op == api.CmdCheck })
	for i := range g[0].Edges {
		switch e := &g[0].Edges[i]; e.Command.Op {
		case api.CmdAssume:
			e.From = 0
		case api.CmdAssign:
			e.From = g[0].Edges[0].To
		}
	}
	g[0].Edges = append(g[0].Edges, api.Edge{From: g[0].Exit})
	return p, g
}

// TestP18_2Odd has graphs in which other edges than checks fail.
func TestP18_2Odd(t *testing.T) {
	p, g := odd(t)
	for args, wanted := range map[string]api.Spot{"0": {Edge: 0}, "3": {Edge: 1}} {
		x := api.Input{Args: ints(args)}
		spot, failed, e := Fails(p, g, x, 9)
		want(t, "Fails with "+args, []any{spot, failed}, []any{wanted, true}, e, api.OK)
		wantRun(t, "an odd graph", p, g, x, 9)
	}
	_, v := wantRun(t, "an odd graph", p, g, api.Input{Args: ints("9")}, 9)
	want(t, "the outcome with 9", v.Outcome, api.OutcomeDone, 0, 0)
}

// results has what all functions return for an input, each with its error.
func results(p api.Program, g []api.Graph, x api.Input, steps int) (map[string]string, map[string]api.Errno) {
	values, errors := map[string]string{}, map[string]api.Errno{}
	keep := func(name string, e api.Errno, list ...any) { values[name], errors[name] = fmt.Sprint(list...), e }
	c, v, count, e := Run(p, g, x, steps)
	keep("Run", e, c, v, count)
	list, e := Trace(p, g, x, steps)
	keep("Trace", e, list)
	frames, e := At(p, g, x, steps, api.Spot{})
	keep("At", e, frames)
	frames, e = At(p, g, x, steps, api.Spot{Proc: -1})
	keep("At nowhere", e, frames)
	visits, e := Visits(p, g, x, steps)
	keep("Visits", e, visits)
	spot, failed, e := Fails(p, g, x, steps)
	keep("Fails", e, spot, failed)
	numbers, done, e := Results(p, g, x, steps)
	keep("Results", e, numbers, done)
	return values, errors
}

// TestErrors has the errors of all functions that have an input (P18.1 and P18.2).
func TestErrors(t *testing.T) {
	p, g := built(t, sum)
	imported, importedGraphs := built(t, "proc main() { } import proc f();")
	other, otherGraphs := built(t, "proc f() { }")
	many := slices.Repeat(ints("1"), 65)
	for _, c := range []struct {
		what  string
		p     api.Program
		g     []api.Graph
		args  string
		reads []api.Int
		steps int
		e     api.Errno
	}{
		{"no steps", p, g, "3", nil, 0, api.OK}, {"8192 steps", p, g, "3", many[:64], 8192, api.OK}, {"8193 steps", p, g, "3", nil, 8193, api.ErrRange}, {"-1 steps", p, g, "3", nil, -1, api.ErrRange},
		{"an argument", p, g, "-0", ints("N9"), -1, api.ErrForm}, {"a large argument", p, g, "N9", nil, -1, api.ErrLarge}, {"a number", p, g, "3", ints("1 x"), -1, api.ErrForm}, {"a large number", p, g, "3", ints("N9"), -1, api.ErrLarge}, {"65 reads", p, g, "-0", many, -1, api.ErrMany}, {"no argument", p, g, "", many, -1, api.ErrShape}, {"two arguments", p, g, "1 2", many, -1, api.ErrShape},
		{"no main", other, otherGraphs, "1", many, -1, api.ErrNone}, {"an import", imported, importedGraphs, "1", many, -1, api.ErrGap}, {"a graph", other, []api.Graph{{}}, "1", many, -1, api.ErrRange}, {"no graph", p, nil, "1 2", many, -1, api.ErrShape}, {"a program", api.Program{Procs: make([]api.Proc, 1)}, nil, "1", many, -1, api.ErrName},
	} {
		values, errors := results(c.p, c.g, api.Input{Args: ints(c.args), Reads: c.reads}, c.steps)
		zeros := map[string]string{"Run": "{[] 0} {0 0 0} 0", "Trace": "[]", "At": "[]", "At nowhere": "[]", "Visits": "[]", "Fails": "{0 0} false", "Results": "[] false"}
		for name, e := range errors {
			wanted := c.e
			if c.e == api.OK && name == "At nowhere" {
				wanted = api.ErrNone
			}
			if e != wanted || e != api.OK && values[name] != zeros[name] {
				t.Errorf("%s with %s: got %s, %d, want %d", name, c.what, values[name], e, wanted)
			}
		}
	}
	for _, at := range []api.Spot{{Proc: -1}, {Proc: 1}, {Edge: -1}, {Edge: 7}, {Proc: 1, Edge: 99}, {Proc: 9, Edge: -9}} {
		frames, e := At(p, g, api.Input{Args: ints("3")}, 99, at)
		want(t, fmt.Sprintf("At %+v", at), len(frames), 0, e, api.ErrNone)
	}
	// The exit is a point, too.
	frames, e := At(p, g, api.Input{Args: ints("3")}, 99, api.Spot{Edge: 6})
	want(t, "At the exit", frames, []api.Frame{{Point: 6, Vars: ints("3 6 3")}}, e, api.OK)
}

// TestP18_1Resume has the errors of Resume, and runs from configurations that no run reaches.
func TestP18_1Resume(t *testing.T) {
	p, g := built(t, "proc main(n) returns (s) { s := input; s := 10 / n; } proc f() { f(); }")
	at := func(point int, vars string, reads int) api.Config {
		return api.Config{Frames: []api.Frame{{Point: point, Vars: ints(vars)}}, Reads: reads}
	}
	many := slices.Repeat(ints("1"), 65)
	for _, c := range []struct {
		what  string
		c     api.Config
		reads []api.Int
		steps int
		e     api.Errno
	}{
		{"nothing", api.Config{}, many, -1, api.ErrEmpty}, {"33 frames", api.Config{Frames: make([]api.Frame, 33)}, many, -1, api.ErrMany}, {"65 reads before", at(0, "1", 65), many, -1, api.ErrRange}, {"a point", at(9, "1", 0), many, -1, api.ErrNone}, {"a variable", at(0, "1", 0), many, -1, api.ErrShape}, {"a number", at(0, "1 00", 0), many, -1, api.ErrForm}, {"a large number", at(0, "1 N9", 0), many, -1, api.ErrLarge}, {"a gap", api.Config{Frames: append(at(0, "1 2", 0).Frames, at(0, "1 2", 0).Frames...)}, many, -1, api.ErrGap},
		{"65 reads", at(0, "1 2", 0), many, -1, api.ErrMany}, {"few reads", at(0, "1 2", 3), many[:2], -1, api.ErrRange}, {"a number to read", at(0, "1 2", 0), ints("1 +2"), -1, api.ErrForm}, {"a large number to read", at(0, "1 2", 1), ints("N9 x"), -1, api.ErrLarge},
		{"-1 steps", at(0, "1 2", 0), nil, -1, api.ErrRange}, {"8193 steps", at(0, "1 2", 64), many[:64], 8193, api.ErrRange},
	} {
		last, v, count, e := Resume(p, g, c.c, c.reads, c.steps)
		want(t, "Resume with "+c.what, []any{last, v, count}, []any{api.Config{}, step.Event{}, 0}, e, c.e)
	}
	_, _, _, e := Resume(p, g[:1], api.Config{}, many, -1)
	want(t, "Resume without a graph", nil, nil, e, api.ErrShape)
	for _, c := range []struct {
		from, last api.Config
		steps      int
		event      step.Event
		count      int
	}{
		{at(0, "2 7", 0), at(0, "2 7", 0), 0, step.Event{Edge: -1}, 0}, {at(0, "2 7", 0), at(1, "2 8", 1), 1, step.Event{Edge: -1}, 1}, {at(0, "2 7", 1), at(3, "2 5", 2), 9, step.Event{Outcome: api.OutcomeDone, Edge: -1}, 3}, {at(0, "2 7", 2), at(0, "2 7", 2), 9, step.Event{Outcome: api.OutcomeStarved, Edge: 0}, 0}, {at(2, "0 7", 2), at(2, "0 7", 2), 9, step.Event{Outcome: api.OutcomeFailed, Check: api.CheckDivide, Edge: 2}, 0}, {at(3, "0 7", 0), at(3, "0 7", 0), 8192, step.Event{Outcome: api.OutcomeDone, Edge: -1}, 0},
	} {
		last, v, count, e := Resume(p, g, c.from, ints("8 9"), c.steps)
		want(t, fmt.Sprintf("Resume from %+v with %d", c.from, c.steps), []any{last, v, count}, []any{c.last, c.event, c.count}, e, api.OK)
	}
	// A run can be resumed in a program without main.
	p, g = built(t, "proc f() { f(); }")
	last, v, count, e := Resume(p, g, api.Config{Frames: make([]api.Frame, 30)}, nil, 9)
	want(t, "Resume with 30 frames", []any{len(last.Frames), v, count}, []any{32, step.Event{Outcome: api.OutcomeDeep, Edge: 0}, 2}, e, api.OK)
}

// TestMemory changes arguments and results behind calls, and calls with the same arguments again (P1).
func TestMemory(t *testing.T) {
	src := "proc f(x) returns (y) { array a[2]; a[0] := x; y := a[0]; } proc main(n) returns (r) { var i; while i < 2 { i := i + 1; r := f(n); } i := input; }"
	p, g := built(t, src)
	x := api.Input{Args: ints("4"), Reads: ints("5 6")}
	for _, steps := range []int{0, 3, 7, 99} {
		trace, _ := Trace(p, g, x, steps)
		kept := fmt.Sprint(trace)
		for i, c := range trace {
			others := slices.Delete(slices.Clone(trace), i, i+1)
			before := fmt.Sprint(others)
			spoil(c.Frames)
			want(t, "the other configurations", fmt.Sprint(others), before, 0, 0)
		}
		again, e := Trace(p, g, x, steps)
		want(t, "Trace", fmt.Sprint(again), kept, e, api.OK)
		for i, c := range again {
			last, _, _, _ := Resume(p, g, c, x.Reads, i%2)
			before := fmt.Sprint(c)
			spoil(last.Frames)
			want(t, "the configuration that is resumed", fmt.Sprint(c), before, 0, 0)
		}
	}
	frames, _ := At(p, g, x, 99, api.Spot{Proc: 0, Edge: 2})
	kept := fmt.Sprint(frames[1:])
	spoil(frames[:1])
	want(t, "the other frames", fmt.Sprint(frames[1:]), kept, 0, 0)
	visits, _ := Visits(p, g, x, 99)
	kept = fmt.Sprint(visits)
	visits[0][0] = 77
	visits, _ = Visits(p, g, x, 99)
	want(t, "Visits", fmt.Sprint(visits), kept, 0, 0)
	numbers, _, _ := Results(p, g, x, 99)
	numbers[0] = "77"
	numbers, _, _ = Results(p, g, x, 99)
	want(t, "Results", numbers, ints("4"), 0, 0)
	want(t, "the input", x, api.Input{Args: ints("4"), Reads: ints("5 6")}, 0, 0)
	again, graphs := built(t, src)
	want(t, "the program", fmt.Sprintf("%+v", p), fmt.Sprintf("%+v", again), 0, 0)
	want(t, "the graphs", fmt.Sprintf("%+v", g), fmt.Sprintf("%+v", graphs), 0, 0)
}

// spoil changes the numbers of frames.
func spoil(frames []api.Frame) {
	for _, f := range frames {
		for _, list := range append(f.Arrays, f.Vars) {
			for i := range list {
				list[i] += "8"
			}
		}
	}
}

// TestLong has a run of a large program with the greatest bound, which would take minutes if the program were checked in each step.
func TestLong(t *testing.T) {
	var src strings.Builder
	for i := range 12 {
		name := fmt.Sprint("p", i)
		if i == 0 {
			name = "main"
		}
		src.WriteString("proc " + name + "(n) returns (r) { var i; array a[32]; " + strings.Repeat("while i < n { i := i + 1; a[i % 32] := r + i / n; } i := 0; ", 30) + "} ")
	}
	p, g := built(t, src.String())
	_, v, count, e := Run(p, g, api.Input{Args: ints("100")}, api.MaxSteps)
	want(t, "Run of a large program", []any{v, count}, []any{step.Event{Edge: -1}, api.MaxSteps}, e, api.OK)
}
