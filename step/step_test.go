package step

import (
	"fmt"
	"slices"
	"strings"
	"testing"

	"surveyor/api"
)

// wantStep checks a step from a configuration; after is the one behind it, or "" if it is the same one.
func wantStep(t *testing.T, what string, p api.Program, g []api.Graph, from api.Config, reads []api.Int, after string, afterReads int, v string) {
	t.Helper()
	wanted := from
	if after != "" {
		wanted = config(after, afterReads)
	}
	what = fmt.Sprintf("Step of %s from %+v", what, from)
	got, gotEvent, e := Step(p, g, from, reads)
	want(t, what, got, wanted, e, api.OK)
	want(t, what, gotEvent, event(v), e, api.OK)
	reference, referenceEvent := referenceStep(p, g, from, reads)
	want(t, "reference of "+what, reference, wanted, 0, 0)
	want(t, "reference of "+what, referenceEvent, event(v), 0, 0)
}

func TestP17_2Examples(t *testing.T) {
	p, g := built(t, "proc main(n) returns (s) { s := 10 / n; }")
	begun, e := Begin(p, g, api.Input{Args: ints("3")})
	want(t, "Begin", begun, config("0@0 3 0", 0), e, api.OK)
	wantStep(t, "3", p, g, begun, nil, "0@1 3 0", 0, "running 0")
	wantStep(t, "3", p, g, config("0@1 3 0", 0), nil, "0@2 3 3", 0, "running 1")
	wantStep(t, "3", p, g, config("0@2 3 3", 0), nil, "", 0, "done -1")
	wantStep(t, "0", p, g, config("0@0 0 0", 0), nil, "", 0, "failed 0 divide")
	wantStep(t, "0", p, g, config("0@1 0 0", 0), nil, "", 0, "failed 1 divide")
}

// TestP17_2Commands has the commands of main, from the point 0 to the point 1, with a = [5 6 7] and b = [8], and the reads 11 and 12.
func TestP17_2Commands(t *testing.T) {
	for _, c := range []struct {
		command, vars string
		reads         int
		after         string // the variables and arrays, or "" if they are the same, and the point is 0
		afterReads    int
		event         string
	}{
		{"skip", "1 2 3", 0, "1 2 3 [5 6 7] [8]", 0, "running 0"}, {"skip", "1 2 3", 64, "1 2 3 [5 6 7] [8]", 64, "running 0"}, {"assume n = 1", "1 2 3", 0, "1 2 3 [5 6 7] [8]", 0, "running 0"}, {"assume n = 2", "1 2 3", 0, "", 0, "blocked -1"}, {"assume 1 / (n - 1) = 2", "1 2 3", 0, "", 0, "failed 0 divide"}, {"assume n + s < k", "1 N 3", 0, "", 0, "large 0"}, {"assume n + s < k or 1 / 0 = 1", "1 N 3", 0, "", 0, "large 0"}, {"assume true or 1 % (k - 3) = 1", "1 N 3", 0, "", 0, "failed 0 divide"},
		{"s := n + 2 * k", "1 2 3", 0, "1 7 3 [5 6 7] [8]", 0, "running 0"}, {"k := -k", "1 2 3", 0, "1 2 -3 [5 6 7] [8]", 0, "running 0"}, {"k := n / s", "-7 2 3", 0, "-7 2 -4 [5 6 7] [8]", 0, "running 0"}, {"k := n % s", "7 -2 3", 0, "7 -2 -1 [5 6 7] [8]", 0, "running 0"}, {"k := n / s", "1 0 3", 0, "", 0, "failed 0 divide"}, {"k := n % s", "1 0 3", 0, "", 0, "failed 0 divide"}, {"k := n * n / s", "N 0 3", 0, "", 0, "large 0"}, {"k := 1 / s + n * n", "N 0 3", 0, "", 0, "failed 0 divide"}, {"k := n * n - n * n", "N 0 3", 0, "", 0, "large 0"}, {"s := n + k", "N 2 0", 0, "N N 0 [5 6 7] [8]", 0, "running 0"}, {"s := -n - 1", "N 2 0", 0, "", 0, "large 0"}, {"s := 0 * (n + 1)", "N 2 0", 0, "", 0, "large 0"},
		{"k := input", "1 2 3", 0, "1 2 11 [5 6 7] [8]", 1, "running 0"}, {"s := input", "1 2 3", 1, "1 12 3 [5 6 7] [8]", 2, "running 0"}, {"s := input", "1 2 3", 2, "", 2, "starved 0"},
		{"s := a[0]", "1 2 3", 0, "1 5 3 [5 6 7] [8]", 0, "running 0"}, {"s := a[n + 1]", "1 2 3", 0, "1 7 3 [5 6 7] [8]", 0, "running 0"}, {"k := b[0]", "1 2 3", 0, "1 2 8 [5 6 7] [8]", 0, "running 0"}, {"k := a[k]", "1 2 3", 0, "", 0, "failed 0 index"}, {"k := a[-n]", "1 2 3", 0, "", 0, "failed 0 index"}, {"k := b[n]", "1 2 3", 0, "", 0, "failed 0 index"}, {"k := a[n]", "N 2 3", 0, "", 0, "failed 0 index"}, {"k := a[4294967296]", "N 2 3", 0, "", 0, "failed 0 index"}, {"k := a[18446744073709551616]", "N 2 3", 0, "", 0, "failed 0 index"}, {"k := a[1 / s]", "1 0 3", 0, "", 0, "failed 0 divide"}, {"k := a[n + 1]", "N 0 3", 0, "", 0, "large 0"},
		{"a[0] := n", "1 2 3", 0, "1 2 3 [1 6 7] [8]", 0, "running 0"}, {"a[s] := s * s", "1 2 3", 0, "1 2 3 [5 6 4] [8]", 0, "running 0"}, {"b[s - 2] := -k", "1 2 3", 0, "1 2 3 [5 6 7] [-3]", 0, "running 0"}, {"a[k] := n", "1 2 3", 0, "", 0, "failed 0 index"}, {"a[n - 2] := n", "1 2 3", 0, "", 0, "failed 0 index"}, {"a[0] := 1 / s", "1 0 3", 0, "", 0, "failed 0 divide"}, {"a[0] := n + 1", "N 0 3", 0, "", 0, "large 0"},
		// The index comes before the value.
		{"a[3] := 1 / s", "1 0 3", 0, "", 0, "failed 0 index"}, {"a[3] := n + 1", "N 0 3", 0, "", 0, "failed 0 index"}, {"a[n + 1] := 1 / s", "N 0 3", 0, "", 0, "large 0"}, {"a[1 / s] := n + 1", "N 0 3", 0, "", 0, "failed 0 divide"}, {"a[n + 1] := n", "N 0 3", 0, "", 0, "large 0"},
		{"assert n < s", "1 2 3", 0, "1 2 3 [5 6 7] [8]", 0, "running 0"}, {"divide n != 0", "1 2 3", 0, "1 2 3 [5 6 7] [8]", 0, "running 0"}, {"assert s < n", "1 2 3", 0, "", 0, "failed 0 assert"}, {"divide n != 1", "1 2 3", 0, "", 0, "failed 0 divide"}, {"index n != 1", "1 2 3", 0, "", 0, "failed 0 index"}, {"requires n != 1", "1 2 3", 0, "", 0, "failed 0 requires"}, {"ensures n != 1", "1 2 3", 0, "", 0, "failed 0 ensures"}, {"assert 1 / s = 1", "1 0 3", 0, "", 0, "failed 0 divide"}, {"ensures true or 1 / s = 1", "1 0 3", 0, "", 0, "failed 0 divide"}, {"ensures n + 1 = 0", "N 0 3", 0, "", 0, "large 0"}, {"assert false and n + 1 = 0", "N 0 3", 0, "", 0, "large 0"},
		// An imported procedure blocks before its arguments are evaluated.
		{"k := e(n)", "1 2 3", 0, "", 0, "blocked 0"}, {"k := e(1 / s)", "1 0 3", 0, "", 0, "blocked 0"}, {"k := e(n + 1)", "N 0 3", 0, "", 0, "blocked 0"},
		{"s, k := f(1 / s, n)", "1 0 3", 0, "", 0, "failed 0 divide"}, {"s, k := f(n, 1 % s)", "1 0 3", 0, "", 0, "failed 0 divide"}, {"s, k := f(n + 1, 1 % s)", "N 0 3", 0, "", 0, "large 0"}, {"s, k := f(1 % s, n + 1)", "N 0 3", 0, "", 0, "failed 0 divide"},
	} {
		p, g := system(t, "3 2; 0-1 "+c.command)
		after := ""
		if c.after != "" {
			after = "0@1 " + c.after
		}
		from := config("0@0 "+c.vars+" [5 6 7] [8]", c.reads)
		reads := ints("11 12")
		if c.reads > 2 {
			reads = slices.Repeat(ints("4"), 64)
		}
		wantStep(t, c.command, p, g, from, reads, after, c.afterReads, c.event)
	}
}

// TestP17_2Edges has which edge is taken, and where it leads.
func TestP17_2Edges(t *testing.T) {
	choice := "4 3; 1-3 s := 7; 0-2 assume n < 0; 0-0 assume n = 0; 0-1 assume 6 / (n - 1) = 3; 0-3 s := 1; 0-1 skip; 2-2 k := k + 1; 3-0 s := 8"
	for _, c := range []struct {
		point              int
		vars, after, event string
	}{
		{0, "-1 0 0", "0@2 -1 0 0 [0 0 0] [0]", "running 1"}, {0, "0 0 0", "0@0 0 0 0 [0 0 0] [0]", "running 2"}, {0, "1 0 0", "", "failed 3 divide"}, {0, "3 0 0", "0@1 3 0 0 [0 0 0] [0]", "running 3"}, {0, "4 0 0", "0@3 4 1 0 [0 0 0] [0]", "running 4"}, {0, "N 0 0", "0@3 N 1 0 [0 0 0] [0]", "running 4"}, {0, "-N 0 0", "0@2 -N 0 0 [0 0 0] [0]", "running 1"},
		{1, "5 0 0", "0@3 5 7 0 [0 0 0] [0]", "running 0"}, {2, "5 0 0", "0@2 5 0 1 [0 0 0] [0]", "running 6"}, {2, "5 0 N", "", "large 6"},
		// At the exit, edges do not matter.
		{3, "5 0 0", "", "done -1"},
	} {
		p, g := system(t, choice)
		wantStep(t, choice, p, g, first(c.point, c.vars), nil, c.after, 0, c.event)
	}
	for _, c := range [][3]string{ // from the point 0, with 1 2 3
		{"2 1", "", "blocked -1"}, {"1 0", "", "done -1"}, {"1 0; 0-0 skip", "", "done -1"}, {"2 1; 1-0 skip; 1-1 skip", "", "blocked -1"}, {"2 1; 0-1 assume n = 2; 0-1 assume s = 1", "", "blocked -1"}, {"2 1; 0-1 assume n = 2; 0-1 assume s = 1; 0-0 k := 9", "0@0 1 2 9 [0 0 0] [0]", "running 2"}, {"2 1; 0-1 assert n = 2; 0-1 skip", "", "failed 0 assert"}, {"2 1; 0-1 assume n = 1; 0-1 assume 1 / 0 = 1", "0@1 1 2 3 [0 0 0] [0]", "running 0"}, {"2 1; 0-1 assume n = 2; 0-1 assume 1 / 0 = 1; 0-1 skip", "", "failed 1 divide"}, {"2 1; 0-1 k := input; 0-1 skip", "", "starved 0"}, {"2 1; 0-1 assume false; 0-1 k := e(n); 0-1 skip", "", "blocked 1"},
	} {
		p, g := system(t, c[0])
		wantStep(t, c[0], p, g, first(0, "1 2 3"), nil, c[1], 0, c[2])
	}
}

// TestP17_2Calls has calls and returns.
func TestP17_2Calls(t *testing.T) {
	p, g := calls(t)
	const at2, frames = "0@2 5 6 7 [1 2 3] [4]; ", "1@1 1 2 3 4 [5 6]; "
	for _, c := range []struct {
		from  string
		after string
		event string
	}{
		// A call leaves the frame where it is, and adds one.
		{main1, main1 + "1@0 1 2 0 0 [0 0]", "running 2"}, {main2, main2 + "2@0", "running 4"}, {f1, "", "done -1"}, {main1 + f0, main1 + f0 + "0@0 -1 0 0 [0 0 0] [0]", "running 0"},
		// A return assigns the results to the variables of the first call of the procedure, and goes behind it.
		{main1 + frames, "0@0 1 3 4 [4 5 6] [7]", "running 2"}, {at2 + g0, "0@3 5 6 7 [1 2 3] [4]", "running 4"}, {at2 + main3, "0@2 5 0 7 [1 2 3] [4]", "running 5"}, {at2 + "0@3 1 9 3 [0 0 0] [0]", "0@2 5 9 7 [1 2 3] [4]", "running 5"}, {"1@0 1 2 3 4 [5 6]; 0@3 7 8 9 [0 0 0] [0]", "1@1 1 2 8 4 [5 6]", "running 0"}, {"1@0 1 2 3 4 [5 6]; 1@1 7 8 9 -1 [0 0]", "1@0 1 2 9 -1 [5 6]", "running 1"}, {"1@1 1 2 3 4 [5 6]; 2@0", "1@1 1 2 3 4 [5 6]", "running 2"},
		{at2 + main1 + frames, at2 + "0@0 1 3 4 [4 5 6] [7]", "running 2"}, {g0 + g0 + g0, g0 + g0, "running 0"}, {g0, "", "done -1"},
		// The innermost frame alone makes steps.
		{main1 + "1@0 1 2 3 4 [5 6]; 0@0 7 7 7 [0 0 0] [0]", main1 + "1@0 1 2 3 4 [5 6]; 0@1 7 7 7 [0 0 0] [0]", "running 0"},
	} {
		for _, reads := range []int{0, 2} {
			wantStep(t, "calls", p, g, config(c.from, reads), ints("1 2"), c.after, reads, c.event)
		}
	}
	// Two results change places.
	p, g = system(t, "2 1; 0-1 s, k := f(s, k)", "3 2; 0-1 q := x; 1-2 r := y")
	from := config("0@0 9 1 2 [0 0 0] [0]", 0)
	for range 4 {
		from, _, _ = Step(p, g, from, nil)
	}
	want(t, "results", from, first(1, "9 2 1"), 0, 0)
	// An empty procedure returns in the next step.
	p, g = system(t, "2 1; 0-1 g()", "1 0", "1 0")
	wantStep(t, "g()", p, g, first(0, "1 2 3"), nil, "0@0 1 2 3 [0 0 0] [0]; 2@0", 0, "running 0")
	wantStep(t, "g()", p, g, config("0@0 1 2 3 [0 0 0] [0]; 2@0", 0), nil, "0@1 1 2 3 [0 0 0] [0]", 0, "running 0")
}

func TestP17_2Deep(t *testing.T) {
	p, g := system(t, "3 2; 0-1 s := main(n); 1-2 s := main(1 / n)", "2 1; 0-1 r, q := f(1 / x, y + 1)", "2 1; 0-1 g(); 1-0 assert false")
	for n := 1; n < 32; n++ {
		after := strings.Repeat(g0, n+1)
		wantStep(t, "g", p, g, config(strings.Repeat(g0, n), 0), nil, after, 0, "running 0")
	}
	wantStep(t, "g", p, g, config(strings.Repeat(g0, 32), 0), nil, "", 0, "deep 0")
	// The arguments are evaluated first.
	outer := strings.Repeat("1@0 0 0 0 0 [0 0]; ", 31)
	wantStep(t, "f", p, g, config(outer+"1@0 1 2 0 0 [0 0]", 0), nil, "", 0, "deep 0")
	wantStep(t, "f", p, g, config(outer+"1@0 0 2 0 0 [0 0]", 0), nil, "", 0, "failed 0 divide")
	wantStep(t, "f", p, g, config(outer+"1@0 0 N 0 0 [0 0]", 0), nil, "", 0, "failed 0 divide")
	wantStep(t, "f", p, g, config(outer+"1@0 1 N 0 0 [0 0]", 0), nil, "", 0, "large 0")
	// Without a frame more, a run goes on.
	wantStep(t, "f", p, g, config(outer+"1@1 1 N 4 5 [0 0]", 0), nil, strings.Repeat("1@0 0 0 0 0 [0 0]; ", 30)+"1@1 0 0 4 5 [0 0]", 0, "running 0")
	wantStep(t, "g", p, g, config(strings.Repeat(g0, 31)+"2@1", 0), nil, strings.Repeat(g0, 30)+"2@1", 0, "running 0")
	// An imported procedure blocks, however many frames there are.
	p, g = system(t, "2 1; 0-1 k := e(n); 0-1 k := main(n)")
	wantStep(t, "e", p, g, config(strings.Repeat(main0, 32), 0), nil, "", 0, "blocked 0")
}

// TestP17_2Reads has numbers that are read, up to their limits, and the errors of Step.
func TestP17_2Reads(t *testing.T) {
	p, g := system(t, "2 1; 0-0 k := input")
	many := slices.Repeat(ints("4"), 64)
	many[63] = "5"
	wantStep(t, "64 reads", p, g, config(main0, 63), many, "0@0 0 0 5 [0 0 0] [0]", 64, "running 0")
	wantStep(t, "64 reads", p, g, config(main0, 64), many, "", 0, "starved 0")
	wantStep(t, "63 reads", p, g, config(main0, 63), many[:63], "", 0, "starved 0")
	wantStep(t, "no reads", p, g, config(main0, 0), nil, "", 0, "starved 0")
	wantStep(t, "large reads", p, g, config(main0, 1), ints("N -N"), "0@0 0 0 -N [0 0 0] [0]", 2, "running 0")
	for _, c := range []struct {
		text  string
		at    int
		reads []api.Int
		e     api.Errno
	}{
		{main0, 0, append(many, "6"), api.ErrMany}, {main0, 3, ints("1 2"), api.ErrRange}, {main0, 64, many[:63], api.ErrRange}, {main0, 1, nil, api.ErrRange}, {main0, 0, ints("1 2 -0"), api.ErrForm}, {main0, 0, ints("N9"), api.ErrLarge}, {main0, 0, ints("-N9 x"), api.ErrLarge}, {main0, 0, ints("x N9"), api.ErrForm}, {main0, 0, []api.Int{""}, api.ErrForm}, {main0, 2, ints("x"), api.ErrRange}, {main0, 0, slices.Repeat(ints("x"), 65), api.ErrMany},
		{"", 0, append(many, "6"), api.ErrEmpty}, {main0, 65, nil, api.ErrRange}, {main0, 65, append(many, "6"), api.ErrRange}, {main0 + main0, 3, nil, api.ErrGap}, {"0@2", 0, ints("x"), api.ErrNone}, {e0, 0, ints("x"), api.ErrUse}, {"0@0", 0, ints("x"), api.ErrShape}, {"0@0 N9 0 0 [0 0 0] [0]", 0, ints("x"), api.ErrLarge}, {strings.Repeat(main0, 33), 0, ints("x"), api.ErrMany},
	} {
		after, v, e := Step(p, g, config(c.text, c.at), c.reads)
		want(t, fmt.Sprintf("Step from %s with %d of %d reads", c.text, c.at, len(c.reads)), []any{after, v}, []any{api.Config{}, Event{}}, e, c.e)
	}
	_, _, e := Step(p, g[:2], config(main0, 0), ints("x"))
	want(t, "Step without graphs", nil, nil, e, api.ErrShape)
	_, _, e = Step(api.Program{Procs: make([]api.Proc, 1)}, g, config(main0, 0), nil)
	want(t, "Step without a program", nil, nil, e, api.ErrName)
}

// TestMemory changes arguments and results behind calls, and calls with the same arguments again (P1).
func TestMemory(t *testing.T) {
	p, g := system(t, "4 3; 0-1 a[n] := 5; 1-2 s, k := f(s, 4); 2-3 k := 1 / n", "2 1; 0-1 c[0] := x")
	text := fmt.Sprintf("%+v %+v", p, g)
	reads := ints("1 2 3")
	for _, from := range []string{"0@0 0 0 0 [0 0 0] [0]", "0@0 9 0 0 [0 0 0] [0]", "0@1 0 0 0 [0 0 0] [0]", "0@1 0 0 0 [0 0 0] [0]; 1@0 1 2 3 4 [5 6]", "0@1 0 0 0 [0 0 0] [0]; 1@1 1 2 3 4 [5 6]", "0@2 0 0 0 [0 0 0] [0]", "0@3 0 0 0 [0 0 0] [0]"} {
		c := config(from, 1)
		after, v, e := Step(p, g, c, reads)
		want(t, "the configuration of "+from, c, config(from, 1), 0, 0)
		kept := fmt.Sprintf("%+v", after)
		spoil(c)
		want(t, "the result of "+from, fmt.Sprintf("%+v", after), kept, 0, 0)
		spoil(after)
		again, event, fault := Step(p, g, config(from, 1), reads)
		want(t, "Step from "+from, fmt.Sprintf("%+v", again), kept, e, fault)
		want(t, "Step from "+from, event, v, 0, 0)
		c = config(from, 1)
		spoil(again)
		Check(p, g, c)
		Taken(p, g, c)
		Call(p, g, c, 0)
		Same(c, c)
		want(t, "the configuration of "+from, c, config(from, 1), 0, 0)
	}
	want(t, "the program and the graphs", fmt.Sprintf("%+v %+v", p, g), text, 0, 0)
	p, g = built(t, "proc main(a, b) { }")
	args := ints("1 2")
	begun, _ := Begin(p, g, api.Input{Args: args, Reads: reads})
	args[0] = "7"
	want(t, "Begin", begun, config("0@0 1 2", 0), 0, 0)
	spoil(begun)
	want(t, "the arguments", args, ints("7 2"), 0, 0)
	want(t, "the reads", reads, ints("1 2 3"), 0, 0)
}

// spoil changes everything in a configuration.
func spoil(c api.Config) {
	for i := range c.Frames {
		f := &c.Frames[i]
		for _, list := range append(f.Arrays, f.Vars) {
			for j := range list {
				list[j] += "8"
			}
		}
		f.Proc, f.Point = f.Proc+1, f.Point+1
	}
}
