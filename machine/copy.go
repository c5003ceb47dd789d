package machine

import (
	"slices"

	"surveyor/api"
)

// Copy returns a configuration in new memory.
func Copy(c api.Config) api.Config {
	c.Frames = copies(c.Frames, copyFrame)
	return c
}

func copyFrame(f api.Frame) api.Frame {
	f.Vars, f.Arrays = slices.Clone(f.Vars), copies(f.Arrays, slices.Clone[[]api.Int])
	return f
}

// copies returns the elements of a list as a function copies them.
func copies[T any](list []T, copied func(T) T) []T {
	var result []T
	for _, x := range list {
		result = append(result, copied(x))
	}
	return result
}
