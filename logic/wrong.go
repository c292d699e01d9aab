package logic

import (
	"errors"

	"toolchest/api"
	"toolchest/task"
	"toolchest/text"
)

// errno is an error's number as an error.
type errno api.Errno

// What may go wrong by itself.
const (
	errUsage  = errno(api.ErrUsage)
	errNumber = errno(api.ErrNumber)
)

func (e errno) Error() string { return text.Word(api.Errno(e)) }

// wrong is an error of an argument.
type wrong struct {
	arg string
	err error
}

func (w *wrong) Error() string { return w.arg + ": " + w.err.Error() }

func (w *wrong) Unwrap() error { return w.err }

// complain says what is wrong, with the argument, if it is one's.
func complain(t *task.Task, err error) {
	var of *wrong
	operand := ""
	if errors.As(err, &of) {
		operand = of.arg
	}
	var e errno
	errors.As(err, &e)
	t.Fail(operand, api.Errno(e))
}
