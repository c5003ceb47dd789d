package graph

import (
	"cmp"
	"slices"

	"surveyor/api"
)

// components returns the number of the component of each point.
func components(g api.Graph) []int {
	v := forward(g)
	groups := groupsOf(g, v)
	numbers := slices.Repeat([]int{-1}, g.Points)
	for number := range groups {
		for _, p := range v.free(groups, numbers) {
			numbers[p] = number
		}
	}
	return numbers
}

// groupsOf returns the components of a graph: their points in ascending order, those with lower points first.
func groupsOf(g api.Graph, v view) [][]int {
	marked := make([]bool, g.Points)
	var order []int
	for p := range g.Points {
		order = append(order, v.visit(p, marked)...)
	}
	// What leads to the last point of the order that is not marked, without points that are marked, can be reached from it, too: otherwise it would be behind it in the order.
	clear(marked)
	back := backward(g)
	var groups [][]int
	for _, p := range slices.Backward(order) {
		if group := back.visit(p, marked); len(group) > 0 {
			slices.Sort(group)
			groups = append(groups, group)
		}
	}
	slices.SortFunc(groups, func(a, b []int) int { return cmp.Compare(a[0], b[0]) })
	return groups
}

// free returns the first group without a number whose edges lead to points of its own, or with numbers.
func (v view) free(groups [][]int, numbers []int) []int {
candidates:
	for _, group := range groups {
		if numbers[group[0]] >= 0 {
			continue
		}
		for q := range v.next(group...) {
			if _, isOwn := slices.BinarySearch(group, q); !isOwn && numbers[q] < 0 {
				continue candidates
			}
		}
		return group
	}
	return nil
}
