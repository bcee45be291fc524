package regex

import "weighted/api"

// failure is what reading or writing a text panics with, as deep within an expression as it may be.
type failure struct {
	at  int
	err api.Errno
}

// caught runs a function and returns the failure with which it panics, or one without an error.
func caught(run func()) (stop failure) {
	defer func() {
		stop, _ = recover().(failure)
	}()
	run()
	return failure{}
}
