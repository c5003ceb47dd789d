package step

import (
	"fmt"
	"slices"
	"strings"
	"testing"

	"surveyor/api"
)

// calls are graphs in which main and f call each other, themselves, g, and e, which is imported.
func calls(t *testing.T) (api.Program, []api.Graph) {
	t.Helper()
	return system(t,
		"4 3; 0-1 s := n; 1-2 assume false; 1-0 s, k := f(n, s); 1-2 k, s := f(1, 2); 2-3 g(); 2-2 s := main(n); 2-1 k := main(s); 3-0 k := e(n)",
		"2 1; 0-1 r := main(x); 0-0 r, q := f(y, x); 1-1 g()",
		"1 0; 0-0 g()")
}

const (
	main0 = "0@0 0 0 0 [0 0 0] [0]; "
	main1 = "0@1 1 2 3 [4 5 6] [7]; "
	main2 = "0@2 0 0 0 [0 0 0] [0]; "
	main3 = "0@3 0 0 0 [0 0 0] [0]; "
	f0    = "1@0 -1 -2 -3 -4 [5 6]; "
	f1    = "1@1 0 0 0 0 [0 0]; "
	g0    = "2@0; "
	e0    = "3@0 0 0; "
)

func TestP17_1Check(t *testing.T) {
	p, g := calls(t)
	for _, c := range []struct {
		text  string
		reads int
		e     api.Errno
	}{
		{main0, 0, api.OK}, {main1, 64, api.OK}, {f1, 1, api.OK}, {g0, 0, api.OK}, {main1 + f0 + main2 + main2 + g0 + g0, 3, api.OK}, {"0@3 N -N 0 [N N -N] [-N]", 0, api.OK},
		{"", 0, api.ErrEmpty}, {"", 65, api.ErrEmpty}, {strings.Repeat(g0, 32), 0, api.OK}, {strings.Repeat(g0, 33), 0, api.ErrMany}, {strings.Repeat(e0, 33), 65, api.ErrMany}, {strings.Repeat(main0, 40), 0, api.ErrMany},
		{main0, -1, api.ErrRange}, {main0, 65, api.ErrRange}, {e0, 65, api.ErrRange}, {"9@0", -1, api.ErrRange},
		{"-1@0", 0, api.ErrNone}, {"4@0", 0, api.ErrNone}, {"5@9 x", 0, api.ErrNone}, {main2 + "4@0", 0, api.ErrGap}, {main2 + "-1@0", 0, api.ErrGap},
		{e0, 0, api.ErrUse}, {"3@9", 0, api.ErrUse}, {main3 + e0, 0, api.ErrUse}, {main2 + e0, 0, api.ErrGap}, {e0 + g0, 0, api.ErrUse},
		{"0@-1 0 0 0 [0 0 0] [0]", 0, api.ErrNone}, {"0@4 0 0 0 [0 0 0] [0]", 0, api.ErrNone}, {"2@1", 0, api.ErrNone}, {"0@4", 0, api.ErrNone}, {main2 + "2@1", 0, api.ErrNone}, {main2 + "2@-1 x", 0, api.ErrNone},
		{"0@0 0 0 [0 0 0] [0]", 0, api.ErrShape}, {"0@0 0 0 0 0 [0 0 0] [0]", 0, api.ErrShape}, {"0@0 0 0 0 [0 0 0]", 0, api.ErrShape}, {"0@0 0 0 0 [0 0 0] [0] [0]", 0, api.ErrShape}, {"0@0 0 0 0", 0, api.ErrShape}, {"0@0 0 0 0 [0 0] [0]", 0, api.ErrShape}, {"0@0 0 0 0 [0 0 0 0] [0]", 0, api.ErrShape}, {"0@0 0 0 0 [0 0 0] []", 0, api.ErrShape}, {"0@0 0 0 0 [0] [0 0 0]", 0, api.ErrShape}, {"2@0 0", 0, api.ErrShape}, {"2@0 []", 0, api.ErrShape}, {"0@0 x 0 0 [0 0] [0]", 0, api.ErrShape}, {main2 + "2@0 []", 0, api.ErrShape},
		{"0@0 0 -0 0 [0 0 0] [0]", 0, api.ErrForm}, {"0@0 0 0 01 [0 0 0] [0]", 0, api.ErrForm}, {"0@0 0 0 0 [0 0 +1] [0]", 0, api.ErrForm}, {"0@0 0 0 0 [0 0 0] [1.5]", 0, api.ErrForm}, {"0@0 0 N9 0 [0 0 0] [0]", 0, api.ErrLarge}, {"0@0 0 0 0 [-N9 0 0] [0]", 0, api.ErrLarge}, {"0@0 0 0 0 [0 0 0] [N9]", 0, api.ErrLarge}, {"0@0 N9 - 0 [0 0 0] [0]", 0, api.ErrLarge}, {"0@0 - N9 0 [0 0 0] [0]", 0, api.ErrForm}, {"0@0 0 0 N9 [- 0 0] [0]", 0, api.ErrLarge}, {"0@0 0 0 0 [N9 0 -] [0]", 0, api.ErrLarge}, {"0@0 0 0 0 [0 0 -] [N9]", 0, api.ErrForm},
		{main0 + f0, 0, api.ErrGap}, {main1 + g0, 0, api.ErrGap}, {main1 + main0, 0, api.ErrGap}, {f1 + f0, 0, api.ErrGap}, {main0 + "0@9", 0, api.ErrGap}, {main0 + main0 + main0, 0, api.ErrGap}, {main2 + main1 + g0, 0, api.ErrGap}, {main2 + main1 + f0 + f0 + main2 + g0 + f0, 0, api.ErrGap}, {main1 + "1@0 0 0 0 0 [0 x]; " + g0, 0, api.ErrForm}, {"0@0 x 0 0 [0 0 0] [0]; " + f0, 0, api.ErrForm},
	} {
		want(t, fmt.Sprintf("Check of %s with %d", c.text, c.reads), Check(p, g, config(c.text, c.reads)), c.e, 0, 0)
		want(t, fmt.Sprintf("reference of %s with %d", c.text, c.reads), referenceCheck(p, g, config(c.text, c.reads)), c.e, 0, 0)
	}
	empty := first(0, "0 0 0")
	empty.Frames[0].Vars[2] = ""
	want(t, "Check of an empty number", Check(p, g, empty), api.ErrForm, 0, 0)
	// A frame at the exit calls, too, if an edge leaves it.
	want(t, "Check at the exit", Check(p, g, config("1@1 0 0 0 0 [0 0]; 2@0", 0)), api.OK, 0, 0)
	// The program and the graphs come first.
	want(t, "Check of graphs", Check(p, g[:3], api.Config{}), api.ErrShape, 0, 0)
	want(t, "Check of a program", Check(api.Program{Procs: make([]api.Proc, 13)}, g, api.Config{}), api.ErrMany, 0, 0)
	want(t, "Check of nothing", Check(api.Program{}, nil, api.Config{}), api.ErrEmpty, 0, 0)
	want(t, "Check of nothing", Check(api.Program{}, nil, config("0@0", 0)), api.ErrNone, 0, 0)
	wrong := slices.Clone(g)
	wrong[1].Exit = 2
	want(t, "Check of graphs", Check(p, wrong, api.Config{}), api.ErrNone, 0, 0)
}

func TestP17_1Begin(t *testing.T) {
	src := "proc f(x) returns (y) { array c[2]; y := x; } proc main(a, b) returns (s) { var k, l; array c[3]; array d[1]; s := f(a); }"
	p, g := built(t, src)
	for _, c := range []struct{ args, reads, config string }{
		{"1 2", "", "1@0 1 2 0 0 0 [0 0 0] [0]"}, {"N -N", "5 6 7", "1@0 N -N 0 0 0 [0 0 0] [0]"},
	} {
		begun, e := Begin(p, g, api.Input{Args: ints(c.args), Reads: ints(c.reads)})
		want(t, "Begin with "+c.args, begun, config(c.config, 0), e, api.OK)
	}
	empty, graphs := built(t, "proc main() { }")
	begun, e := Begin(empty, graphs, api.Input{})
	want(t, "Begin", begun, config("0@0", 0), e, api.OK)
	imported, importedGraphs := built(t, src+" import proc g();")
	other, otherGraphs := built(t, "proc f() { }")
	many := slices.Repeat(ints("1"), 65)
	for _, c := range []struct {
		what   string
		p      api.Program
		g      []api.Graph
		args   string
		reads  []api.Int
		wanted api.Errno
	}{
		{"64 reads", p, g, "1 2", many[:64], api.OK}, {"65 reads", p, g, "1 2", many, api.ErrMany}, {"few arguments", p, g, "1", many, api.ErrShape}, {"many arguments", p, g, "1 2 3", nil, api.ErrShape}, {"an argument", p, g, "1 -0", ints(string(huge)), api.ErrForm}, {"a large argument", p, g, "N9 2", ints("x"), api.ErrLarge}, {"a number", p, g, "1 2", ints("1 2 00"), api.ErrForm}, {"a large number", p, g, "1 2", ints("1 -N9"), api.ErrLarge},
		{"an import", imported, importedGraphs, "1", many, api.ErrGap}, {"no main", other, otherGraphs, "1", nil, api.ErrNone}, {"nothing", api.Program{}, nil, "", nil, api.ErrNone},
		{"few graphs", p, g[:1], "1", nil, api.ErrShape}, {"few graphs with an import", imported, g, "1", nil, api.ErrShape}, {"a graph", other, []api.Graph{{}}, "", nil, api.ErrRange}, {"a program", api.Program{Procs: []api.Proc{{}}}, nil, "", nil, api.ErrName},
	} {
		begun, e := Begin(c.p, c.g, api.Input{Args: ints(c.args), Reads: c.reads})
		if e != c.wanted || e != api.OK && !Same(begun, api.Config{}) {
			t.Errorf("Begin with %s: got %+v, %d, want %d", c.what, begun, e, c.wanted)
		}
	}
}

func TestP17_1Taken(t *testing.T) {
	for _, c := range []struct {
		graph, vars string
		point, edge int
		event       string
	}{
		{"2 1; 0-1 skip", "0 0 0", 0, 0, "running 0"}, {"2 1; 1-0 skip; 0-1 skip; 0-0 s := 1", "0 0 0", 0, 1, "running 0"}, {"2 1; 1-0 skip", "0 0 0", 1, -1, "running 0"}, {"2 1", "0 0 0", 0, -1, "running 0"}, {"3 1; 0-2 skip; 1-2 skip", "0 0 0", 2, -1, "running 0"},
		{"2 1; 0-1 assume n = 0; 0-1 assume n = 1; 0-1 assume n = 2", "0 0 0", 0, 0, "running 0"}, {"2 1; 0-1 assume n = 0; 0-1 assume n = 1; 0-1 assume n = 2", "1 0 0", 0, 1, "running 0"}, {"2 1; 0-1 assume n = 0; 0-1 assume n = 1; 0-1 assume n = 2", "2 0 0", 0, 2, "running 0"}, {"2 1; 0-1 assume n = 0; 0-1 assume n = 1; 0-1 assume n = 2", "3 0 0", 0, -1, "running 0"},
		{"2 1; 0-1 assume n < 5; 0-1 assume n < 6; 0-1 skip", "5 0 0", 0, 1, "running 0"}, {"2 1; 0-1 assume n < 5; 0-1 skip; 0-1 assume true", "5 0 0", 0, 1, "running 0"},
		// A condition without a value ends the search, but not one behind the edge that is taken.
		{"2 1; 0-1 assume 1 / n = 1; 0-1 skip", "0 0 0", 0, -1, "failed 0 divide"}, {"2 1; 0-1 assume 1 / n = 1; 0-1 skip", "1 0 0", 0, 0, "running 0"}, {"2 1; 0-1 assume 1 / n = 1; 0-1 skip", "2 0 0", 0, 1, "running 0"}, {"2 1; 1-0 skip; 0-1 assume false; 0-1 assume true or n % n = 1; 0-1 skip", "0 0 0", 0, -1, "failed 2 divide"}, {"2 1; 0-1 assume n + 1 = 0; 0-1 skip", "N 0 0", 0, -1, "large 0"}, {"2 1; 0-1 assume n = 0; 0-1 assume n * n = 0 and 1 / s = 1", "N 0 0", 0, -1, "large 1"}, {"2 1; 0-1 assume 1 / s = n * n", "N 0 0", 0, -1, "failed 0 divide"}, {"2 1; 0-1 assume true; 0-1 assume 1 / n = 1", "0 0 0", 0, 0, "running 0"},
		// What the command does does not matter.
		{"2 1; 0-1 s := 1 / n", "0 0 0", 0, 0, "running 0"}, {"2 1; 0-1 assert 1 / n = 1", "0 0 0", 0, 0, "running 0"}, {"2 1; 0-1 k := input; 0-1 skip", "0 0 0", 0, 0, "running 0"}, {"2 1; 0-1 k := e(n); 0-1 skip", "0 0 0", 0, 0, "running 0"}, {"2 1; 0-1 a[9] := n; 0-1 skip", "0 0 0", 0, 0, "running 0"},
	} {
		p, g := system(t, c.graph)
		edge, v, e := Taken(p, g, first(c.point, c.vars))
		want(t, fmt.Sprintf("Taken of %s at %d with %s", c.graph, c.point, c.vars), []any{edge, v}, []any{c.edge, event(c.event)}, e, api.OK)
	}
	p, g := calls(t)
	for text, edge := range map[string]int{main1 + f0: 0, main1 + f0 + main1: 2, main1 + f1: -1, main2 + main2: 4, main2 + g0: -1, main3: -1} {
		got, v, e := Taken(p, g, config(text, 0))
		want(t, "Taken at "+text, []any{got, v}, []any{edge, Event{}}, e, api.OK)
	}
	for text, wanted := range map[string]api.Errno{"": api.ErrEmpty, e0: api.ErrUse, main0 + f0: api.ErrGap, "0@0": api.ErrShape, "7@0": api.ErrNone} {
		edge, v, e := Taken(p, g, config(text, 0))
		want(t, "Taken at "+text, []any{edge, v}, []any{0, Event{}}, e, wanted)
	}
	_, _, e := Taken(p, g[:1], api.Config{})
	want(t, "Taken without graphs", nil, nil, e, api.ErrShape)
}

func TestP17_1Call(t *testing.T) {
	p, g := calls(t)
	for _, c := range []struct {
		text        string
		frame, edge int
		e           api.Errno
	}{
		// The first edge with a call of the next procedure, whether it can be taken or not.
		{main1 + f0, 0, 2, api.OK}, {main2 + g0, 0, 4, api.OK}, {main2 + main2, 0, 5, api.OK}, {f0 + main0, 0, 0, api.OK}, {f0 + f0, 0, 1, api.OK}, {f1 + g0 + g0, 0, 2, api.OK}, {f1 + g0 + g0, 1, 0, api.OK}, {main2 + main1 + f0 + f1, 0, 5, api.OK}, {main2 + main1 + f0 + f1, 1, 2, api.OK}, {main2 + main1 + f0 + f1, 2, 1, api.OK}, {strings.Repeat(g0, 32), 30, 0, api.OK},
		{main1 + f0, 1, 0, api.ErrNone}, {main1 + f0, 2, 0, api.ErrNone}, {main1 + f0, -1, 0, api.ErrNone}, {main1, 0, 0, api.ErrNone}, {g0, 0, 0, api.ErrNone}, {strings.Repeat(g0, 32), 31, 0, api.ErrNone},
		{"", 0, 0, api.ErrEmpty}, {main0 + f0, 0, 0, api.ErrGap}, {main1 + "1@0", 9, 0, api.ErrShape}, {e0, 0, 0, api.ErrUse},
	} {
		edge, e := Call(p, g, config(c.text, 0), c.frame)
		want(t, fmt.Sprintf("Call of %d in %s", c.frame, c.text), edge, c.edge, e, c.e)
	}
	_, e := Call(p, g[:1], config(main1+f0, 0), 0)
	want(t, "Call without graphs", nil, nil, e, api.ErrShape)
}

func TestP17_1Same(t *testing.T) {
	text := main1 + f0
	// The texts differ in one place each.
	others := []string{"", main1, f0, main1 + f0 + f0, main1 + f1, f0 + main1, main0 + f0, "2@1 1 2 3 [4 5 6] [7]; " + f0, "0@2 1 2 3 [4 5 6] [7]; " + f0, "0@1 1 2 4 [4 5 6] [7]; " + f0, "0@1 1 2 [4 5 6] [7]; " + f0, "0@1 1 2 3 0 [4 5 6] [7]; " + f0, "0@1 1 2 3 [4 5 6]; " + f0, "0@1 1 2 3 [4 5 7] [7]; " + f0, "0@1 1 2 3 [4 5] [6 7]; " + f0, "0@1 1 2 3 [4 5 6] [7] []; " + f0, "0@1 1 2 3 [4 5 6] []; " + f0, main1 + "1@0 -1 -2 -3 -4 [5 +6]"}
	want(t, "Same", Same(config(text, 1), config(text, 1)), true, 0, 0)
	want(t, "Same with other Reads", Same(config(text, 1), config(text, 2)), false, 0, 0)
	for _, other := range others {
		want(t, "Same of "+other, Same(config(text, 1), config(other, 1)), false, 0, 0)
		want(t, "Same of "+other, Same(config(other, 1), config(text, 1)), false, 0, 0)
		want(t, "Same of "+other, Same(config(other, -9), config(other, -9)), true, 0, 0)
	}
	// Nil and empty lists are equal.
	want(t, "Same of nothing", Same(api.Config{}, api.Config{Frames: []api.Frame{}}), true, 0, 0)
	bare := api.Config{Frames: []api.Frame{{Arrays: make([][]api.Int, 1)}}}
	full := api.Config{Frames: []api.Frame{{Vars: []api.Int{}, Arrays: [][]api.Int{{}}}}}
	want(t, "Same of empty lists", Same(bare, full), true, 0, 0)
}
