package graph

import (
	"fmt"
	"math/rand"
	"slices"
	"testing"

	"surveyor/api"
)

// This file has the references that results are compared with: the definitions of the document, by tables of what can be reached.

// want reports an error if a value or an error number is not the expected one.
func want(t *testing.T, what string, got, wanted any, e, wantedError api.Errno) {
	t.Helper()
	if g, w := fmt.Sprint(got), fmt.Sprint(wanted); g != w || e != wantedError {
		t.Errorf("%.1500s:\ngot  %.1000s, %d\nwant %.1000s, %d", what, g, e, w, wantedError)
	}
}

// connected returns a graph with edges between these pairs of points.
func connected(points, exit int, ends ...int) api.Graph {
	g := api.Graph{Points: points, Exit: exit}
	for i := 0; i+1 < len(ends); i += 2 {
		g.Edges = append(g.Edges, api.Edge{From: ends[i], To: ends[i+1]})
	}
	return g
}

// text describes a graph.
func text(g api.Graph) string {
	out := fmt.Sprintf("%d points, exit %d:", g.Points, g.Exit)
	for _, e := range g.Edges {
		out += fmt.Sprintf(" %d-%d", e.From, e.To)
	}
	return out
}

// table says for each two points whether there is a path of at least one edge, with edges that a function accepts.
func table(g api.Graph, accepts func(i int, e api.Edge) bool) [][]bool {
	t := make([][]bool, g.Points)
	for p := range t {
		t[p] = make([]bool, g.Points)
	}
	for i, e := range g.Edges {
		if accepts(i, e) {
			t[e.From][e.To] = true
		}
	}
	for k := range t {
		for i := range t {
			for j := range t {
				t[i][j] = t[i][j] || t[i][k] && t[k][j]
			}
		}
	}
	return t
}

// paths is the table of paths without a point (-1: with all points). A path may have no edge.
func paths(g api.Graph, without int) [][]bool {
	t := table(g, func(_ int, e api.Edge) bool { return e.From != without && e.To != without })
	for p := range t {
		t[p][p] = p != without
	}
	return t
}

func referenceComponents(g api.Graph) []int {
	can := paths(g, -1)
	isSame := func(p, q int) bool { return can[p][q] && can[q][p] }
	numbers := slices.Repeat([]int{-1}, g.Points)
	for number := 0; slices.Contains(numbers, -1); number++ {
		for p := range g.Points {
			isReady := numbers[p] < 0
			for _, e := range g.Edges {
				if isSame(p, e.From) && !isSame(p, e.To) && numbers[e.To] < 0 {
					isReady = false
				}
			}
			if isReady {
				for q := range g.Points {
					if isSame(p, q) {
						numbers[q] = number
					}
				}
				break
			}
		}
	}
	return numbers
}

// swapped returns a point, but the exit for the entry, and the entry for the exit.
func swapped(g api.Graph, p int) int {
	switch p {
	case 0:
		return g.Exit
	case g.Exit:
		return 0
	}
	return p
}

// reversed returns the graph with its edges reversed, and its entry and exit swapped.
func reversed(g api.Graph) api.Graph {
	out := api.Graph{Points: g.Points, Exit: g.Exit}
	for _, e := range g.Edges {
		out.Edges = append(out.Edges, api.Edge{From: swapped(g, e.To), To: swapped(g, e.From)})
	}
	return out
}

// dominanceTable says of each two points whether the first one dominates the second one.
func dominanceTable(g api.Graph) [][]bool {
	can := paths(g, -1)
	t := make([][]bool, g.Points)
	for d := range t {
		t[d] = make([]bool, g.Points)
		without := paths(g, d)
		for p := range t {
			t[d][p] = can[0][p] && (d == 0 || !without[0][p])
		}
	}
	return t
}

func referenceDominators(g api.Graph) []int {
	dominates := dominanceTable(g)
	var out []int
	for p := range g.Points {
		immediate := -1
		for d := range g.Points {
			isImmediate := d != p && dominates[d][p]
			for other := range g.Points {
				if isImmediate && other != p && dominates[other][p] && !dominates[other][d] {
					isImmediate = false
				}
			}
			if isImmediate {
				immediate = d
			}
		}
		out = append(out, immediate)
	}
	return out
}

func referencePostdominators(g api.Graph) []int {
	out := make([]int, g.Points)
	for p, d := range referenceDominators(reversed(g)) {
		out[swapped(g, p)] = swapped(g, d)
	}
	return out
}

func referenceBack(g api.Graph) []int {
	dominates := dominanceTable(g)
	var out []int
	for i, e := range g.Edges {
		if dominates[e.To][e.From] {
			out = append(out, i)
		}
	}
	return out
}

func referenceLoops(g api.Graph) []Loop {
	can := paths(g, -1)
	back := referenceBack(g)
	var out []Loop
	for head := range g.Points {
		without := paths(g, head)
		isHead := false
		points := map[int]bool{head: true}
		for _, i := range back {
			if g.Edges[i].To != head {
				continue
			}
			isHead = true
			for p := range g.Points {
				if can[0][p] && without[p][g.Edges[i].From] {
					points[p] = true
				}
			}
		}
		if !isHead {
			continue
		}
		loop := Loop{Head: head}
		for p := range g.Points {
			if points[p] {
				loop.Points = append(loop.Points, p)
			}
		}
		out = append(out, loop)
	}
	return out
}

// referenceReducible looks for a cycle without a back edge.
func referenceReducible(g api.Graph) bool {
	can := paths(g, -1)
	back := referenceBack(g)
	others := table(g, func(i int, e api.Edge) bool { return can[0][e.From] && !slices.Contains(back, i) })
	for p := range g.Points {
		if others[p][p] {
			return false
		}
	}
	return true
}

// wantAll compares all results for a graph.
func wantAll(t *testing.T, g api.Graph) {
	t.Helper()
	what := text(g)
	want(t, "Check of "+what, 0, 0, Check(g), api.OK)
	components, e := Components(g)
	want(t, "Components of "+what, components, referenceComponents(g), e, api.OK)
	for p, row := range paths(g, -1) {
		reached, e := Reachable(g, p)
		want(t, fmt.Sprintf("Reachable from %d in %s", p, what), reached, row, e, api.OK)
	}
	var out, in [][]int
	for p := range g.Points {
		var leaving, entering []int
		for i, e := range g.Edges {
			if e.From == p {
				leaving = append(leaving, i)
			}
			if e.To == p {
				entering = append(entering, i)
			}
		}
		out, in = append(out, leaving), append(in, entering)
	}
	edges, e := Out(g)
	want(t, "Out of "+what, edges, out, e, api.OK)
	edges, e = In(g)
	want(t, "In of "+what, edges, in, e, api.OK)
	list, e := Dominators(g)
	want(t, "Dominators of "+what, list, referenceDominators(g), e, api.OK)
	list, e = Postdominators(g)
	want(t, "Postdominators of "+what, list, referencePostdominators(g), e, api.OK)
	list, e = Back(g)
	want(t, "Back of "+what, list, referenceBack(g), e, api.OK)
	loops, e := Loops(g)
	want(t, "Loops of "+what, loops, referenceLoops(g), e, api.OK)
	isReducible, e := Reducible(g)
	want(t, "Reducible of "+what, isReducible, referenceReducible(g), e, api.OK)
}

// random returns a graph in which edges prefer points that are near.
func random(r *rand.Rand, points, edges int) api.Graph {
	g := api.Graph{Points: points, Exit: r.Intn(points)}
	for range edges {
		from, to := r.Intn(points), r.Intn(points)
		if r.Intn(2) == 0 {
			to = min(points-1, max(0, from+r.Intn(6)-2))
		}
		g.Edges = append(g.Edges, api.Edge{From: from, To: to})
	}
	return g
}
