package graph

import (
	"slices"

	"surveyor/api"
)

// loops returns the natural loops of a graph.
func loops(g api.Graph) []Loop {
	d := dominance(forward(g), 0)
	last := make([][]int, g.Points) // from where the back edges to each point come
	for _, e := range g.Edges {
		if d.isBack(e) {
			last[e.To] = append(last[e.To], e.From)
		}
	}
	against := backward(g)
	var list []Loop
	for head, points := range last {
		if len(points) > 0 {
			list = append(list, Loop{head, d.loop(against, head, points)})
		}
	}
	return list
}

// loop returns the points of the loop of a head with back edges from these points.
func (d dominators) loop(against view, head int, last []int) []int {
	marked := make([]bool, len(d.rank))
	for p := range marked {
		marked[p] = p == head || !d.isReached(p)
	}
	points := []int{head}
	for _, p := range last {
		points = append(points, against.visit(p, marked)...)
	}
	slices.Sort(points)
	return points
}

// isReducible reports whether each cycle has a back edge. Ranks cannot fall along a whole cycle, so each one has an edge that does not lead to a lower rank. Such an edge leads to a point from which its own start was visited; if it is no back edge, it closes a cycle with the edges of this visit, which lead to lower ranks, and so are no back edges either.
func isReducible(g api.Graph) bool {
	d := dominance(forward(g), 0)
	for _, e := range g.Edges {
		if d.isReached(e.From) && d.rank[e.To] >= d.rank[e.From] && !d.isBack(e) {
			return false
		}
	}
	return true
}
