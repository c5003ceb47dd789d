// Package number is a helper of the layers whose integers have at most api.MaxDigits digits.
package number

import (
	"strings"

	"surveyor/api"
	"surveyor/bigint"
)

// Check returns OK for canonical integers with at most api.MaxDigits digits.
func Check(a api.Int) api.Errno {
	switch e := bigint.Check(a); {
	case e != api.OK:
		return e
	case IsLong(a):
		return api.ErrLarge
	}
	return api.OK
}

// IsLong reports whether a canonical integer has more than api.MaxDigits digits.
func IsLong(a api.Int) bool {
	return len(strings.TrimPrefix(string(a), "-")) > api.MaxDigits
}

// Sure returns the result of a function of bigint that has no error: products of two such integers, and what is computed from them, are far shorter than bigint allows.
func Sure[T any](result T, _ api.Errno) T {
	return result
}
