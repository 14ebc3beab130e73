// Package function: the functions that an expression may call.
package function

import (
	"pluck/fault"
	"pluck/value"
)

// Whether an arg is a value or an expression is told by a byte for each.
const (
	Value      = 'v'
	Expression = '&'
)

// A Closure is what an expression has become: called with the current value, it
// answers with what the expression gives.
type Closure func(current value.Value) (value.Value, error)

// An Arg is a value, or an expression that the function calls as it likes.
type Arg struct {
	Value value.Value
	By    Closure
}

type Function struct {
	word string
	args []kind
	more bool // of the last arg there may be more
	do   body
}

// A body is only called with what the function takes.
type body func(args []Arg) (value.Value, error)

// Find is the function of this name, if there is one.
func Find(word string) (Function, bool) {
	for _, f := range table() {
		if f.word == word {
			return f, true
		}
	}
	return Function{}, false
}

// Takes tells whether these are as many args as the function takes, with
// expressions just where it takes them.
func (f Function) Takes(args string) bool {
	if len(args) < len(f.args) || len(args) > len(f.args) && !f.more {
		return false
	}
	for i := range len(args) {
		if (args[i] == Expression) != (f.kind(i) == nil) {
			return false
		}
	}
	return true
}

// Call is what the function gives of args that Takes allows.
func (f Function) Call(args []Arg) (value.Value, error) {
	for i, arg := range args {
		if kind := f.kind(i); kind != nil && !kind(arg.Value) {
			return nil, fault.Type
		}
	}
	return f.do(args)
}

func (f Function) kind(arg int) kind { return f.args[min(arg, len(f.args)-1)] }
