package step

import (
	"fmt"
	"strings"
	"testing"

	"surveyor/api"
	"surveyor/cfg"
	"surveyor/parser"
	"surveyor/resolve"
)

// This file has programs, graphs, configurations and events from texts.

var (
	nines = api.Int(strings.Repeat("9", 100))
	huge  = nines + "9"
)

// want reports an error if a value or an error number is not the expected one.
func want(t *testing.T, what string, got, wanted any, e, wantedError api.Errno) {
	t.Helper()
	if g, w := fmt.Sprintf("%+v", got), fmt.Sprintf("%+v", wanted); g != w || e != wantedError {
		t.Errorf("%.1500s:\ngot  %.1500s, %d\nwant %.1500s, %d", what, g, e, w, wantedError)
	}
}

// read returns the program of a text, in which N is the greatest number.
func read(t *testing.T, src string) api.Program {
	t.Helper()
	tree, at, e := parser.Parse(strings.ReplaceAll(src, "N", string(nines)))
	if e != api.OK {
		t.Fatalf("%q has no tree: %d, %d", src, at, e)
	}
	p, at, e := resolve.Program(tree)
	if e != api.OK {
		t.Fatalf("%q is no program: %d, %d", src, at, e)
	}
	return p
}

// built returns a program and its graphs.
func built(t *testing.T, src string) (api.Program, []api.Graph) {
	t.Helper()
	p := read(t, src)
	g, e := cfg.Build(p)
	if e != api.OK {
		t.Fatalf("%q has no graphs: %d", src, e)
	}
	return p, g
}

// heads are the procedures of systems, without what ends their bodies.
var heads = []string{"proc main(n) returns (s) { var k; array a[3]; array b[1]; ", "proc f(x, y) returns (r, q) { array c[2]; ", "proc g() { ", "import proc e(z) returns (w); "}

// source returns the text of the program of systems, with a statement in a procedure.
func source(proc int, statement string) string {
	var src string
	for i, head := range heads {
		if src += head; i == proc {
			src += statement
		}
		if strings.HasSuffix(head, "{ ") || strings.Contains(head, "array") {
			src += "} "
		}
	}
	return src
}

// system returns the program of systems with graphs of texts, like "2 1; 0-1 s := n", for its first procedures: the points, the exit, and the edges.
func system(t *testing.T, texts ...string) (api.Program, []api.Graph) {
	t.Helper()
	p := read(t, source(0, ""))
	graphs := []api.Graph{{Points: 1}, {Points: 1}, {Points: 1}, {Points: 1}}
	for i, text := range texts {
		parts := strings.Split(text, ";")
		fmt.Sscan(parts[0], &graphs[i].Points, &graphs[i].Exit)
		for _, part := range parts[1:] {
			ends, words, _ := strings.Cut(strings.TrimSpace(part), " ")
			edge := api.Edge{Command: command(t, i, words)}
			fmt.Sscanf(ends, "%d-%d", &edge.From, &edge.To)
			graphs[i].Edges = append(graphs[i].Edges, edge)
		}
	}
	if e := cfg.Check(p, graphs); e != api.OK {
		t.Fatalf("%q has an error: %d", texts, e)
	}
	return p, graphs
}

var kinds = map[string]int{"assert": api.CheckAssert, "divide": api.CheckDivide, "index": api.CheckIndex, "requires": api.CheckRequires, "ensures": api.CheckEnsures}

var operations = map[int]int{api.StmtAssign: api.CmdAssign, api.StmtInput: api.CmdInput, api.StmtLoad: api.CmdLoad, api.StmtStore: api.CmdStore, api.StmtAssume: api.CmdAssume, api.StmtAssert: api.CmdCheck, api.StmtCall: api.CmdCall}

// command returns the command of a text.
func command(t *testing.T, proc int, text string) api.Command {
	t.Helper()
	if text == "skip" {
		return api.Command{}
	}
	word, rest, _ := strings.Cut(text, " ")
	kind := kinds[word]
	if kind != api.CheckNone {
		text = "assert " + rest
	}
	s := read(t, source(proc, text+"; ")).Procs[proc].Body[0]
	return api.Command{Op: operations[s.Op], Check: kind, Var: s.Var, Array: s.Array, Proc: s.Proc, Index: s.Index, Expr: s.Expr, Cond: s.Cond, Args: s.Args, Results: s.Results}
}

// ints returns the numbers of a text.
func ints(text string) []api.Int {
	var list []api.Int
	for _, word := range strings.Fields(strings.ReplaceAll(text, "N", string(nines))) {
		list = append(list, api.Int(word))
	}
	return list
}

// config returns the configuration of a text, like "0@1 3 0 [5 6]; 1@0 2": frames with their procedures, their points, their variables and their arrays.
func config(text string, reads int) api.Config {
	c := api.Config{Reads: reads}
	for part := range strings.SplitSeq(text, ";") {
		if strings.TrimSpace(part) == "" {
			continue
		}
		lists := strings.Split(strings.ReplaceAll(part, "]", ""), "[")
		var f api.Frame
		words := strings.Fields(lists[0])
		fmt.Sscanf(words[0], "%d@%d", &f.Proc, &f.Point)
		f.Vars = ints(strings.Join(words[1:], " "))
		for _, list := range lists[1:] {
			f.Arrays = append(f.Arrays, ints(list))
		}
		c.Frames = append(c.Frames, f)
	}
	return c
}

// first returns the configuration with one frame of main in systems, at a point, with n, s and k.
func first(point int, vars string) api.Config {
	return config(fmt.Sprintf("0@%d %s [0 0 0] [0]", point, vars), 0)
}

var outcomes = map[string]int{"running": api.OutcomeRunning, "done": api.OutcomeDone, "failed": api.OutcomeFailed, "blocked": api.OutcomeBlocked, "starved": api.OutcomeStarved, "large": api.OutcomeLarge, "deep": api.OutcomeDeep}

// event returns the event of a text, like "running 3" or "failed 2 divide".
func event(text string) Event {
	var outcome, check string
	var edge int
	fmt.Sscan(text, &outcome, &edge, &check)
	return Event{outcomes[outcome], kinds[check], edge}
}
