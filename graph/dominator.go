package graph

import (
	"slices"

	"surveyor/api"
)

// dominators are those of the points that a view has from a root.
type dominators struct {
	parent []int // the immediate dominator of each point, or -1
	rank   []int // the place of each point in the order of a visit, or -1 if it is not reached
}

// dominance returns the dominators in a view from a root. A point dominates what is not reached without it. In the order of a visit a point comes before its dominators, so that from the end of the order on its immediate dominator is the last one that is found.
func dominance(v view, root int) dominators {
	points := len(v.leaving)
	d := dominators{slices.Repeat([]int{-1}, points), slices.Repeat([]int{-1}, points)}
	order := v.visit(root, make([]bool, points))
	for rank, p := range order {
		d.rank[p] = rank
	}
	for _, p := range slices.Backward(order) {
		marked := make([]bool, points)
		marked[p] = true
		v.visit(root, marked)
		for _, q := range order {
			if !marked[q] {
				d.parent[q] = p
			}
		}
	}
	return d
}

func (d dominators) isReached(p int) bool {
	return d.rank[p] >= 0
}

// isBack reports whether an edge is a back edge.
func (d dominators) isBack(e api.Edge) bool {
	if !d.isReached(e.From) {
		return false
	}
	p := e.From
	for p >= 0 && p != e.To {
		p = d.parent[p]
	}
	return p >= 0
}
