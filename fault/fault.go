// Package fault: what goes wrong inside, on its way up to the face, where it becomes a number.
package fault

import (
	"errors"

	"quern/api"
)

// Fault is an error that knows which number it becomes.
type Fault struct {
	number api.Errno
	where  string
	behind error
}

// New is a fault at some place, with what was behind it.
func New(number api.Errno, where string, behind error) error {
	return &Fault{number: number, where: where, behind: behind}
}

// Error tells the place, and what was behind the fault.
func (f *Fault) Error() string {
	if f.behind == nil {
		return f.where
	}
	return f.where + ": " + f.behind.Error()
}

// Unwrap is what was behind the fault.
func (f *Fault) Unwrap() error { return f.behind }

// Number is what an error becomes at the face.
func Number(err error) api.Errno {
	if err == nil {
		return api.OK
	}
	var f *Fault
	if errors.As(err, &f) {
		return f.number
	}
	// An error without a number is a slip of the program; it must not pass for OK.
	return api.ErrArg
}
