// Package halt ends steps early: what doesn't go on throws its error, and that is told where the steps were begun.
package halt

import "tramway/api"

// fault is what is thrown.
type fault struct{ no api.Errno }

// With throws an error.
func With(no api.Errno) { panic(fault{no}) }

// On throws e, if it is an error.
func On(e api.Errno) {
	if e != api.OK {
		With(e)
	}
}

// Unless throws the error, if it isn't so.
func Unless(so bool, no api.Errno) {
	if !so {
		With(no)
	}
}

// Run goes through steps, and tells the error that they throw, if they do.
func Run(steps func()) (no api.Errno) {
	defer func() {
		thrown := recover()
		if thrown == nil {
			return
		}
		f, ok := thrown.(fault)
		if !ok {
			panic(thrown)
		}
		no = f.no
	}()
	steps()
	return api.OK
}
