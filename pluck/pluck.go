// Package pluck: questions about JSON texts: see DOC.md.
package pluck

import (
	"errors"

	"pluck/api"
	"pluck/command"
	"pluck/eval"
	"pluck/fault"
	"pluck/parser"
	"pluck/reader"
	"pluck/tree"
	"pluck/value"
)

// Compact writes a JSON text in one way (P3).
func Compact(json string) (string, int, api.Errno) {
	v, err := reader.Text(json)
	if err != nil {
		return "", place(err), errno(err)
	}
	return value.Text(v), 0, api.OK
}

// Show tells how an expression is understood (P4).
func Show(expr string) (string, int, api.Errno) {
	n, err := parser.Text(expr)
	if err != nil {
		return "", place(err), errno(err)
	}
	return tree.Text(n), 0, api.OK
}

// Eval answers an expression (P5 to P8).
func Eval(expr, json string) (string, api.Errno) {
	v, err := given(expr, json)
	if err != nil {
		return "", errno(err)
	}
	return value.Text(v), api.OK
}

// given is what an expression gives of the value of a JSON text.
func given(expr, json string) (value.Value, error) {
	n, err := parser.Text(expr)
	if err != nil {
		return nil, err
	}
	v, err := reader.Text(json)
	if err != nil {
		return nil, err
	}
	return eval.Closure(n)(v)
}

// Run is the command (P9).
func Run(args []string, input string) (string, int) {
	out, err := command.Run(args, input)
	return out, status(err)
}

func status(err error) int {
	var failure command.Failure
	if errors.As(err, &failure) {
		return failure.Status
	}
	return 0
}

func place(err error) int {
	var at fault.At
	if errors.As(err, &at) {
		return at.Place
	}
	return 0
}

func errno(err error) api.Errno {
	switch {
	case errors.Is(err, fault.Long):
		return api.ErrLong
	case errors.Is(err, fault.Syntax):
		return api.ErrSyntax
	case errors.Is(err, fault.Name):
		return api.ErrName
	case errors.Is(err, fault.Arity):
		return api.ErrArity
	case errors.Is(err, fault.JSON):
		return api.ErrJSON
	case errors.Is(err, fault.Large):
		return api.ErrLarge
	case errors.Is(err, fault.Type):
		return api.ErrType
	}
	return api.OK
}
