// Package tree is a helper of the layers that have trees: expressions, conditions and statements. Trees can be deeper than calls, so it keeps lists of what is left.
package tree

import (
	"iter"
	"slices"
)

// Preorder yields the nodes of trees, each one before those below it, with their depths.
func Preorder[T any](roots []T, below func(T) []T) iter.Seq2[T, int] {
	return func(yield func(T, int) bool) {
		levels := [][]T{roots} // what is left on each level
		for len(levels) > 0 {
			depth := len(levels)
			rest := levels[depth-1]
			if len(rest) == 0 {
				levels = levels[:depth-1]
				continue
			}
			if !yield(rest[0], depth) {
				return
			}
			levels[depth-1] = rest[1:]
			levels = append(levels, below(rest[0]))
		}
	}
}

// Same reports whether trees have equal nodes in the same places.
func Same[T any](a, b []T, below func(T) []T, equal func(a, b T) bool) bool {
	if len(a) != len(b) {
		return false
	}
	left, right := slices.Clone(a), slices.Clone(b)
	for len(left) > 0 {
		last := len(left) - 1
		x, y := left[last], right[last]
		underX, underY := below(x), below(y)
		if len(underX) != len(underY) || !equal(x, y) {
			return false
		}
		left, right = append(left[:last], underX...), append(right[:last], underY...)
	}
	return true
}
