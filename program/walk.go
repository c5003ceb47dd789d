package program

import (
	"iter"
	"slices"

	"surveyor/api"
	"surveyor/tree"
)

// statements yields the statements of a body and all within them, each one before its Body, and this before its Else, with their depths.
func statements(body []api.Stmt) iter.Seq2[api.Stmt, int] {
	return tree.Preorder(body, within)
}

// within returns the statements directly within a statement.
func within(s api.Stmt) []api.Stmt {
	return slices.Concat(s.Body, s.Else)
}

// measure returns the number of statements and the depth. It stops at the first statement beyond a number.
func measure(body []api.Stmt, most int) (int, int) {
	count, deepest := 0, 0
	for _, depth := range statements(body) {
		count++
		deepest = max(deepest, depth)
		if count > most {
			break
		}
	}
	return count, deepest
}
