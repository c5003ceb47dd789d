package graph

import (
	"iter"

	"surveyor/api"
)

// view is a well-formed graph as paths see it: along the edges, or against them.
type view struct {
	ends    []int   // where each edge leads to
	leaving [][]int // the edges of each point that lead away from it
}

// forward returns the view along the edges.
func forward(g api.Graph) view {
	v := view{leaving: make([][]int, g.Points)}
	for i, e := range g.Edges {
		v.ends = append(v.ends, e.To)
		v.leaving[e.From] = append(v.leaving[e.From], i)
	}
	return v
}

// backward returns the view against the edges.
func backward(g api.Graph) view {
	v := view{leaving: make([][]int, g.Points)}
	for i, e := range g.Edges {
		v.ends = append(v.ends, e.From)
		v.leaving[e.To] = append(v.leaving[e.To], i)
	}
	return v
}

// next yields where the edges of points lead to.
func (v view) next(points ...int) iter.Seq[int] {
	return func(yield func(int) bool) {
		for _, p := range points {
			for _, e := range v.leaving[p] {
				if !yield(v.ends[e]) {
					return
				}
			}
		}
	}
}

// visit marks the points that can be reached from a point without points that are marked already, and returns them: each one behind those to which it was the first to lead.
func (v view) visit(from int, marked []bool) []int {
	var order []int
	var step func(int)
	step = func(p int) {
		if marked[p] {
			return
		}
		marked[p] = true
		for q := range v.next(p) {
			step(q)
		}
		order = append(order, p)
	}
	step(from)
	return order
}
