package run

import (
	"fmt"
	"strings"
	"testing"

	"surveyor/api"
	"surveyor/cfg"
	"surveyor/parser"
	"surveyor/resolve"
	"surveyor/step"
)

// This file has the reference that results are compared with: a run is a loop of steps, each of which is checked by package step.

var nines = strings.Repeat("9", 100)

// want reports an error if a value or an error number is not the expected one.
func want(t *testing.T, what string, got, wanted any, e, wantedError api.Errno) {
	t.Helper()
	if g, w := fmt.Sprintf("%+v", got), fmt.Sprintf("%+v", wanted); g != w || e != wantedError {
		t.Errorf("%.1500s:\ngot  %.1500s, %d\nwant %.1500s, %d", what, g, e, w, wantedError)
	}
}

// built returns the program of a text, in which N is the greatest number, and its graphs.
func built(t *testing.T, src string) (api.Program, []api.Graph) {
	t.Helper()
	tree, at, e := parser.Parse(strings.ReplaceAll(src, "N", nines))
	if e != api.OK {
		t.Fatalf("%q has no tree: %d, %d", src, at, e)
	}
	p, at, e := resolve.Program(tree)
	if e != api.OK {
		t.Fatalf("%q is no program: %d, %d", src, at, e)
	}
	g, e := cfg.Build(p)
	if e != api.OK {
		t.Fatalf("%q has no graphs: %d", src, e)
	}
	return p, g
}

// ints returns the numbers of a text.
func ints(text string) []api.Int {
	var list []api.Int
	for _, word := range strings.Fields(strings.ReplaceAll(text, "N", nines)) {
		list = append(list, api.Int(word))
	}
	return list
}

// reference returns the configurations of a run from one on, and its event.
func reference(t *testing.T, p api.Program, g []api.Graph, c api.Config, reads []api.Int, steps int) ([]api.Config, step.Event) {
	t.Helper()
	list := []api.Config{c}
	for len(list) <= steps {
		next, v, e := step.Step(p, g, list[len(list)-1], reads)
		if e != api.OK {
			t.Fatalf("no step from %+v: %d", list[len(list)-1], e)
		}
		if v.Outcome != api.OutcomeRunning {
			return list, v
		}
		list = append(list, next)
	}
	return list, step.Event{Edge: -1}
}

// wantRun compares all functions with the reference for an input, and returns the last configuration and the event.
func wantRun(t *testing.T, what string, p api.Program, g []api.Graph, x api.Input, steps int) (api.Config, step.Event) {
	t.Helper()
	begun, e := step.Begin(p, g, x)
	if e != api.OK {
		t.Fatalf("%s does not begin: %d", what, e)
	}
	list, event := reference(t, p, g, begun, x.Reads, steps)
	last := list[len(list)-1]
	what = fmt.Sprintf("%s with %v and %d", what, x, steps)
	c, v, count, e := Run(p, g, x, steps)
	want(t, "Run of "+what, []any{c, v, count}, []any{last, event, len(list) - 1}, e, api.OK)
	c, v, count, e = Resume(p, g, begun, x.Reads, steps)
	want(t, "Resume of "+what, []any{c, v, count}, []any{last, event, len(list) - 1}, e, api.OK)
	trace, e := Trace(p, g, x, steps)
	want(t, "Trace of "+what, trace, list, e, api.OK)
	wantPoints(t, what, p, g, x, steps, list)
	wantEnd(t, what, p, g, x, steps, last, event)
	return c, v
}

// wantPoints checks At and Visits for the configurations of a run.
func wantPoints(t *testing.T, what string, p api.Program, g []api.Graph, x api.Input, steps int, list []api.Config) {
	t.Helper()
	visits, e := Visits(p, g, x, steps)
	var counts [][]int
	for i := range g {
		counts = append(counts, nil)
		for point := range g[i].Points {
			var frames []api.Frame
			for _, c := range list {
				if f := c.Frames[len(c.Frames)-1]; f.Proc == i && f.Point == point {
					frames = append(frames, f)
				}
			}
			counts[i] = append(counts[i], len(frames))
			if point%4 == len(list)%4 { // a run for each point would take long
				at, e := At(p, g, x, steps, api.Spot{Proc: i, Edge: point})
				want(t, fmt.Sprintf("At %d of %d, %s", point, i, what), at, frames, e, api.OK)
			}
		}
	}
	want(t, "Visits of "+what, visits, counts, e, api.OK)
}

// wantEnd checks Fails and Results for the last configuration and the event of a run.
func wantEnd(t *testing.T, what string, p api.Program, g []api.Graph, x api.Input, steps int, last api.Config, event step.Event) {
	t.Helper()
	var spot api.Spot
	if event.Outcome == api.OutcomeFailed {
		spot = api.Spot{Proc: last.Frames[len(last.Frames)-1].Proc, Edge: event.Edge}
	}
	at, failed, e := Fails(p, g, x, steps)
	want(t, "Fails of "+what, []any{at, failed}, []any{spot, event.Outcome == api.OutcomeFailed}, e, api.OK)
	var numbers []api.Int
	if event.Outcome == api.OutcomeDone {
		main := p.Procs[last.Frames[0].Proc]
		numbers = last.Frames[0].Vars[main.Params : main.Params+main.Results]
	}
	results, done, e := Results(p, g, x, steps)
	want(t, "Results of "+what, []any{results, done}, []any{numbers, event.Outcome == api.OutcomeDone}, e, api.OK)
}
