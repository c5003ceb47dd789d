package resolve

import "surveyor/api"

// fault is an error at an offset. It leaves nested functions by panic, as they have nothing left to do then.
type fault struct {
	at int
	e  api.Errno
}

// must ends the work with an error at an offset, unless a condition holds.
func must(holds bool, at int, e api.Errno) {
	if !holds {
		panic(fault{at, e})
	}
}

// resolved returns the result of a function, or the error with which its work ended.
func resolved[T any](resolve func() T) (result T, at int, e api.Errno) {
	defer func() {
		switch ended := recover().(type) {
		case nil:
		case fault:
			at, e = ended.at, ended.e
		default:
			panic(ended)
		}
	}()
	return resolve(), 0, api.OK
}
