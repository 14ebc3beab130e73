// Package fault: the errors that the program's parts hand up to its calls.
package fault

import (
	"errors"
	"strconv"
)

var (
	Long   = errors.New("the text is too long")
	Syntax = errors.New("no expression")
	Name   = errors.New("no such function")
	Arity  = errors.New("not the args that the function takes")
	JSON   = errors.New("no JSON text")
	Large  = errors.New("a number that is too great, or too fine, or a value that is too heavy")
	Type   = errors.New("a function of what it does not take")
	Args   = errors.New("not options and one expression")
)

// At is a fault together with the place in the text where it was met.
type At struct {
	Place int
	Cause error
}

func (a At) Error() string { return a.Cause.Error() + ", at " + strconv.Itoa(a.Place) }

func (a At) Unwrap() error { return a.Cause }
