package graph

import (
	"fmt"
	"math/rand"
	"slices"
	"testing"

	"surveyor/api"
)

// example is the graph of the examples of the document.
func example(more ...int) api.Graph {
	return connected(5, 4, append([]int{0, 1, 1, 2, 2, 1, 1, 3, 3, 4}, more...)...)
}

func TestP16_1Examples(t *testing.T) {
	numbers, e := Components(example())
	want(t, "Components", numbers, []int{3, 2, 2, 1, 0}, e, api.OK)
	reached, e := Reachable(example(), 3)
	want(t, "Reachable", reached, []bool{false, false, false, true, true}, e, api.OK)
	edges, e := Out(example())
	want(t, "Out", edges, [][]int{{0}, {1, 3}, {2}, {4}, {}}, e, api.OK)
	edges, e = In(example())
	want(t, "In", edges, [][]int{{}, {0, 2}, {1}, {3}, {4}}, e, api.OK)
}

func TestP16_2Examples(t *testing.T) {
	list, e := Dominators(example())
	want(t, "Dominators", list, []int{-1, 0, 1, 1, 3}, e, api.OK)
	list, e = Postdominators(example())
	want(t, "Postdominators", list, []int{1, 3, 1, 4, -1}, e, api.OK)
	list, e = Back(example())
	want(t, "Back", list, []int{2}, e, api.OK)
	loops, e := Loops(example())
	want(t, "Loops", loops, []Loop{{1, []int{1, 2}}}, e, api.OK)
	isReducible, e := Reducible(example())
	want(t, "Reducible", isReducible, true, e, api.OK)
	isReducible, e = Reducible(example(0, 2))
	want(t, "Reducible", isReducible, false, e, api.OK)
	list, e = Back(example(0, 2))
	want(t, "Back", list, []int(nil), e, api.OK)
	loops, e = Loops(example(0, 2))
	want(t, "Loops", loops, []Loop(nil), e, api.OK)
}

// manyEdges returns a graph with a number of edges, of which one may end at some other point.
func manyEdges(edges, at, from, to int) api.Graph {
	g := api.Graph{Points: 3, Exit: 2, Edges: make([]api.Edge, edges)}
	for i := range g.Edges {
		g.Edges[i] = api.Edge{From: i % 3, To: i % 2}
	}
	if at >= 0 {
		g.Edges[at] = api.Edge{From: from, To: to}
	}
	return g
}

// wrong are graphs with their errors.
func wrong() map[string]struct {
	g api.Graph
	e api.Errno
} {
	type row = struct {
		g api.Graph
		e api.Errno
	}
	const huge = 1 << 62
	return map[string]row{
		"no point":          {api.Graph{}, api.ErrRange},
		"negative points":   {api.Graph{Points: -1, Exit: -2}, api.ErrRange},
		"513 points":        {api.Graph{Points: 513}, api.ErrRange},
		"very many points":  {api.Graph{Points: huge}, api.ErrRange},
		"very few points":   {api.Graph{Points: -huge * 2}, api.ErrRange},
		"exit behind":       {api.Graph{Points: 3, Exit: 3}, api.ErrRange},
		"negative exit":     {api.Graph{Points: 3, Exit: -1}, api.ErrRange},
		"huge exit":         {api.Graph{Points: 512, Exit: huge}, api.ErrRange},
		"exit and edges":    {api.Graph{Points: 3, Exit: 3, Edges: make([]api.Edge, 1025)}, api.ErrRange},
		"points and edges":  {api.Graph{Points: 513, Exit: 3, Edges: []api.Edge{{From: -1}}}, api.ErrRange},
		"exit and an edge":  {connected(3, -1, 0, 5), api.ErrRange},
		"1025 edges":        {manyEdges(1025, -1, 0, 0), api.ErrMany},
		"a wrong one, 1025": {manyEdges(1025, 0, -1, 0), api.ErrMany},
		"many edges":        {manyEdges(100000, 1, 7, 7), api.ErrMany},
		"From behind":       {connected(3, 2, 0, 1, 3, 1), api.ErrNone},
		"To behind":         {connected(3, 2, 0, 1, 1, 3), api.ErrNone},
		"negative From":     {connected(3, 2, -1, 1, 0, 1), api.ErrNone},
		"negative To":       {connected(3, 2, 1, -1), api.ErrNone},
		"huge To":           {connected(3, 2, 0, 0, 1, huge), api.ErrNone},
		"huge From":         {connected(512, 2, 0, 511, -huge, 1), api.ErrNone},
		"the last of 1024":  {manyEdges(1024, 1023, 0, 3), api.ErrNone},
		"first of 1024":     {manyEdges(1024, 0, 3, 0), api.ErrNone},
	}
}

// functions are those that return the error of Check first.
var functions = []struct {
	name string
	call func(g api.Graph) (any, any, api.Errno) // the result, and the zero value
}{
	{"Out", func(g api.Graph) (any, any, api.Errno) { v, e := Out(g); return len(v), 0, e }},
	{"In", func(g api.Graph) (any, any, api.Errno) { v, e := In(g); return len(v), 0, e }},
	{"Reachable", func(g api.Graph) (any, any, api.Errno) { v, e := Reachable(g, -1); return len(v), 0, e }},
	{"Components", func(g api.Graph) (any, any, api.Errno) { v, e := Components(g); return len(v), 0, e }},
	{"Dominators", func(g api.Graph) (any, any, api.Errno) { v, e := Dominators(g); return len(v), 0, e }},
	{"Postdominators", func(g api.Graph) (any, any, api.Errno) { v, e := Postdominators(g); return len(v), 0, e }},
	{"Back", func(g api.Graph) (any, any, api.Errno) { v, e := Back(g); return len(v), 0, e }},
	{"Loops", func(g api.Graph) (any, any, api.Errno) { v, e := Loops(g); return len(v), 0, e }},
	{"Reducible", func(g api.Graph) (any, any, api.Errno) { v, e := Reducible(g); return v, false, e }},
}

// TestFirstErrors has graphs that are not well-formed (P16.1, P16.2).
func TestFirstErrors(t *testing.T) {
	for name, c := range wrong() {
		want(t, "Check of "+name, 0, 0, Check(c.g), c.e)
		for _, f := range functions {
			got, wanted, e := f.call(c.g)
			want(t, f.name+" of "+name, got, wanted, e, c.e)
		}
	}
}

func TestP16_1Check(t *testing.T) {
	for i, g := range []api.Graph{connected(1, 0), connected(512, 511), connected(512, 0, 511, 511, 0, 511, 511, 0), connected(1, 0, 0, 0, 0, 0), manyEdges(1024, -1, 0, 0), example(), {Points: 2, Exit: 1, Edges: []api.Edge{{Command: api.Command{Op: -5, At: -1, Var: 77}}}}} {
		want(t, fmt.Sprint("Check ", i), 0, 0, Check(g), api.OK)
	}
}

// TestP16_1Commands has edges with commands, which do not matter.
func TestP16_1Commands(t *testing.T) {
	g := example()
	for i := range g.Edges {
		g.Edges[i].Command = api.Command{Op: i - 2, At: -7, Results: []int{9}}
	}
	numbers, e := Components(g)
	want(t, "Components", numbers, []int{3, 2, 2, 1, 0}, e, api.OK)
	loops, e := Loops(g)
	want(t, "Loops", loops, []Loop{{1, []int{1, 2}}}, e, api.OK)
}

func TestP16_1Reachable(t *testing.T) {
	for _, from := range []int{-1, 5, 1 << 62, -1 << 63} {
		reached, e := Reachable(example(), from)
		want(t, fmt.Sprint("Reachable from ", from), reached, []bool(nil), e, api.ErrNone)
	}
	reached, e := Reachable(connected(1, 0), 0)
	want(t, "Reachable", reached, []bool{true}, e, api.OK)
}

// TestP16_1Numbers has components whose numbers are easy to get wrong.
func TestP16_1Numbers(t *testing.T) {
	for _, c := range []struct {
		g       api.Graph
		numbers []int
	}{
		{connected(4, 3), []int{0, 1, 2, 3}}, {connected(4, 3, 0, 1), []int{1, 0, 2, 3}}, {connected(4, 3, 0, 3), []int{3, 0, 1, 2}}, {connected(4, 3, 3, 0), []int{0, 1, 2, 3}},
		// As soon as 3 has its number, 0 comes before 1 and 2.
		{connected(5, 3, 0, 4, 4, 0, 0, 1), []int{1, 0, 2, 3, 1}}, {connected(5, 3, 1, 3, 0, 2), []int{1, 3, 0, 2, 4}},
		// The least point of a component counts, wherever the others are.
		{connected(6, 0, 5, 0, 0, 5, 1, 2, 2, 1, 3, 4, 4, 3), []int{0, 1, 1, 2, 2, 0}}, {connected(6, 0, 5, 0, 0, 5, 5, 3, 1, 2), []int{3, 1, 0, 2, 4, 3}}, {connected(3, 0, 0, 0, 1, 1, 1, 0), []int{0, 1, 2}},
	} {
		numbers, e := Components(c.g)
		want(t, "Components of "+text(c.g), numbers, referenceComponents(c.g), e, api.OK)
		if c.numbers != nil {
			want(t, "Components of "+text(c.g), numbers, c.numbers, e, api.OK)
		}
	}
}

// TestP16_2Shapes has graphs with points that are not reached, edges that lead back to their start, and several edges between two points.
func TestP16_2Shapes(t *testing.T) {
	for _, c := range []struct {
		g           api.Graph
		idom, ipdom []int
		back        []int
		loops       []Loop
		isReducible bool
	}{
		{connected(1, 0), []int{-1}, []int{-1}, nil, nil, true},
		{connected(1, 0, 0, 0), []int{-1}, []int{-1}, []int{0}, []Loop{{0, []int{0}}}, true},
		// An edge of a point that is not reached is no back edge, and its cycle does not matter.
		{connected(3, 2, 0, 2, 1, 1), []int{-1, -1, 0}, []int{2, -1, -1}, nil, nil, true},
		{connected(4, 3, 0, 3, 1, 2, 2, 1, 1, 3), []int{-1, -1, -1, 0}, []int{3, 3, 1, -1}, nil, nil, true},
		// A point that is not reached leads into a loop, and is not in it.
		{connected(4, 2, 0, 1, 1, 1, 1, 2, 3, 1), []int{-1, 0, 1, -1}, []int{1, 2, -1, 1}, []int{1}, []Loop{{1, []int{1}}}, true},
		{connected(5, 3, 0, 1, 1, 2, 2, 1, 2, 3, 4, 2), []int{-1, 0, 1, 2, -1}, []int{1, 2, 3, -1, 2}, []int{2}, []Loop{{1, []int{1, 2}}}, true},
		// Two loops with one head are one; parallel edges are all back edges.
		{connected(4, 3, 0, 1, 1, 0, 0, 2, 2, 0, 2, 0, 0, 3), []int{-1, 0, 0, 0}, []int{3, 0, 0, -1}, []int{1, 3, 4}, []Loop{{0, []int{0, 1, 2}}}, true},
		// A loop within a loop.
		{connected(5, 4, 0, 1, 1, 2, 2, 2, 2, 3, 3, 1, 3, 4), []int{-1, 0, 1, 2, 3}, []int{1, 2, 3, 4, -1}, []int{2, 4}, []Loop{{1, []int{1, 2, 3}}, {2, []int{2}}}, true},
		{connected(4, 3, 0, 1, 1, 2, 2, 1, 2, 0, 2, 3), []int{-1, 0, 1, 2}, []int{1, 2, 3, -1}, []int{2, 3}, []Loop{{0, []int{0, 1, 2}}, {1, []int{1, 2}}}, true},
		// No way to the exit.
		{connected(3, 0, 0, 1, 0, 2), []int{-1, 0, 0}, []int{-1, -1, -1}, nil, nil, true},
		{connected(3, 2, 0, 1, 1, 0), []int{-1, 0, -1}, []int{-1, -1, -1}, []int{1}, []Loop{{0, []int{0, 1}}}, true},
		// A branch, and what is behind it.
		{connected(5, 4, 0, 1, 0, 2, 1, 3, 2, 3, 3, 4), []int{-1, 0, 0, 0, 3}, []int{3, 3, 3, 4, -1}, nil, nil, true},
		{connected(5, 4, 0, 1, 0, 2, 1, 3, 2, 3, 3, 4, 1, 4), []int{-1, 0, 0, 0, 0}, []int{4, 4, 3, 4, -1}, nil, nil, true},
		// A cycle with two entries, one of them within a loop.
		{connected(5, 4, 0, 1, 1, 2, 1, 3, 2, 3, 3, 2, 3, 1, 3, 4), []int{-1, 0, 1, 1, 3}, []int{1, 3, 3, 4, -1}, []int{5}, []Loop{{1, []int{1, 2, 3}}}, false},
		// The entry within a loop.
		{connected(3, 2, 1, 0, 0, 1, 1, 2), []int{-1, 0, 1}, []int{1, 2, -1}, []int{0}, []Loop{{0, []int{0, 1}}}, true},
	} {
		what := text(c.g)
		list, e := Dominators(c.g)
		want(t, "Dominators of "+what, list, c.idom, e, api.OK)
		list, e = Postdominators(c.g)
		want(t, "Postdominators of "+what, list, c.ipdom, e, api.OK)
		list, e = Back(c.g)
		want(t, "Back of "+what, list, c.back, e, api.OK)
		loops, e := Loops(c.g)
		want(t, "Loops of "+what, loops, c.loops, e, api.OK)
		isReducible, e := Reducible(c.g)
		want(t, "Reducible of "+what, isReducible, c.isReducible, e, api.OK)
		wantAll(t, c.g)
	}
}

// TestAllSmall has all graphs of up to three points without parallel edges (P16.1, P16.2).
func TestAllSmall(t *testing.T) {
	for points := 1; points <= 3; points++ {
		for set := range 1 << (points * points) {
			g := api.Graph{Points: points, Exit: set % points}
			for i := range points * points {
				if set>>i&1 != 0 {
					g.Edges = append(g.Edges, api.Edge{From: i / points, To: i % points})
				}
			}
			for exit := range points {
				g.Exit = exit
				wantAll(t, g)
			}
		}
	}
}

// TestRandom has random graphs (P16.1, P16.2), of which enough are of each kind.
func TestRandom(t *testing.T) {
	r := rand.New(rand.NewSource(1))
	kinds := map[string]int{}
	for range 15000 {
		points := 1 + r.Intn(12)
		g := random(r, points, r.Intn(2*points+3))
		wantAll(t, g)
		isReducible, _ := Reducible(g)
		loops, _ := Loops(g)
		kinds[fmt.Sprintf("%t %d", isReducible, min(len(loops), 3))]++
	}
	for _, kind := range []string{"true 0", "true 1", "true 2", "true 3", "false 0", "false 1", "false 2"} {
		if kinds[kind] < 20 {
			t.Errorf("only %d graphs are of the kind %s", kinds[kind], kind)
		}
	}
}

// large returns graphs of the greatest size: chains, nests and random ones.
func large() []api.Graph {
	r := rand.New(rand.NewSource(2))
	chain, back, fan := api.Graph{Points: 512, Exit: 511}, api.Graph{Points: 512, Exit: 511}, api.Graph{Points: 512, Exit: 511}
	for p := range 511 {
		chain.Edges = append(chain.Edges, api.Edge{From: p, To: p + 1})
		back.Edges = append(back.Edges, api.Edge{From: p, To: p + 1}, api.Edge{From: p + 1, To: p})
		fan.Edges = append(fan.Edges, api.Edge{From: 511 - p, To: 510 - p}, api.Edge{From: 0, To: 511 - p})
	}
	return []api.Graph{chain, back, fan, random(r, 512, 1024), random(r, 512, 700), random(r, 300, 1024), random(r, 40, 1024)}
}

// TestP16_3Components has edges between components.
func TestP16_3Components(t *testing.T) {
	for _, g := range large() {
		numbers, e := Components(g)
		want(t, "Components", len(numbers), g.Points, e, api.OK)
		for _, edge := range g.Edges {
			if numbers[edge.From] < numbers[edge.To] {
				t.Errorf("an edge from component %d to %d", numbers[edge.From], numbers[edge.To])
			}
		}
		sorted := slices.Sorted(slices.Values(numbers))
		all := slices.Compact(slices.Clone(sorted))
		for i, number := range all {
			want(t, "the numbers", number, i, 0, 0)
		}
		// Points with the same number reach each other; others with both ways would have the same one.
		for p := range g.Points {
			reached, _ := Reachable(g, p)
			for q := range g.Points {
				if numbers[p] == numbers[q] && !reached[q] || reached[q] && numbers[q] > numbers[p] {
					t.Fatalf("components of %d and %d", p, q)
				}
			}
		}
	}
}

// without returns a graph without the edges of a point.
func without(g api.Graph, p int) api.Graph {
	out := api.Graph{Points: g.Points, Exit: g.Exit}
	for _, e := range g.Edges {
		if e.From != p && e.To != p {
			out.Edges = append(out.Edges, e)
		}
	}
	return out
}

// TestP16_3Dominators takes the edges of points away.
func TestP16_3Dominators(t *testing.T) {
	for _, g := range large() {
		idom, _ := Dominators(g)
		reached, _ := Reachable(g, 0)
		for d := range g.Points {
			left, e := Reachable(without(g, d), 0)
			want(t, "Reachable", len(left), g.Points, e, api.OK)
			for p := range g.Points {
				isDominated := false
				for q := p; q >= 0 && reached[p]; q = idom[q] {
					isDominated = isDominated || q == d
				}
				if p != 0 && isDominated != (reached[p] && !left[p]) {
					t.Fatalf("%d dominates %d: %t", d, p, isDominated)
				}
			}
		}
		loops, _ := Loops(g)
		for _, l := range loops {
			for _, p := range l.Points {
				for p != l.Head && p >= 0 {
					p = idom[p]
				}
				want(t, "the head", p, l.Head, 0, 0)
			}
		}
	}
}

// TestMemory changes results, and calls functions again (P1).
func TestMemory(t *testing.T) {
	g := example(0, 3, 0, 4, 1, 1)
	before := fmt.Sprint(g)
	for i, call := range []func() []int{
		func() []int { v, _ := Components(g); return v }, func() []int { v, _ := Dominators(g); return v }, func() []int { v, _ := Postdominators(g); return v }, func() []int { v, _ := Back(g); return v },
		func() []int { v, _ := Out(g); return v[1] }, func() []int { v, _ := In(g); return v[1] }, func() []int { v, _ := Loops(g); return v[0].Points },
	} {
		first := call()
		wanted := fmt.Sprint(first)
		clear(first)
		want(t, fmt.Sprint("call ", i), call(), wanted, 0, 0)
		want(t, "the argument", g, before, 0, 0)
	}
	nested := connected(5, 4, 0, 1, 1, 2, 2, 2, 2, 3, 3, 1, 3, 4)
	for i, call := range []func() [][]int{
		func() [][]int { v, _ := Out(nested); return v }, func() [][]int { v, _ := In(nested); return v }, func() [][]int { v, _ := Loops(nested); return [][]int{v[0].Points, v[1].Points} },
	} {
		lists := call()
		wanted := fmt.Sprint(lists)
		for _, list := range lists {
			_ = append(list, 77, 78)
		}
		want(t, fmt.Sprint("lists of call ", i), lists, wanted, 0, 0)
	}
}
