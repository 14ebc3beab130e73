// Package command: one expression, asked of one JSON text after the other.
package command

import (
	"iter"
	"strings"

	"pluck/api"
	"pluck/eval"
	"pluck/fault"
	"pluck/function"
	"pluck/parser"
	"pluck/reader"
	"pluck/value"
)

// What the command ends with where it met a fault.
const (
	BadExpression = 1
	BadCall       = 2 // the args, or too much input
	BadText       = 3
	BadReckoning  = 4
)

// A Failure is a fault together with what the command ends with: of the fault
// alone one could not tell whose it is.
type Failure struct {
	Status int
	Cause  error
}

func (f Failure) Error() string { return "the command ended: " + f.Cause.Error() }

func (f Failure) Unwrap() error { return f.Cause }

// Run is what is told of the texts of the input, up to the first fault.
func Run(args []string, input string) (string, error) {
	o, err := ordered(args)
	if err != nil {
		return "", Failure{BadCall, err}
	}
	if len(input) > api.MaxInput {
		return "", Failure{BadCall, fault.Long}
	}
	n, err := parser.Text(o.expr)
	if err != nil {
		return "", Failure{BadExpression, err}
	}
	return o.answers(eval.Closure(n), reader.Texts(input))
}

func (o order) answers(ask function.Closure, texts iter.Seq2[value.Value, error]) (string, error) {
	var out strings.Builder
	for v, err := range texts {
		if err != nil {
			return out.String(), Failure{BadText, err}
		}
		given, err := ask(v)
		if err != nil {
			return out.String(), Failure{BadReckoning, err}
		}
		out.WriteString(o.line(given))
	}
	return out.String(), nil
}

// line is what is told of one result, with its newline.
func (o order) line(v value.Value) string {
	if o.noNull && v == (value.Null{}) {
		return ""
	}
	if s, ok := v.(value.String); ok && o.plain {
		return string(s) + "\n"
	}
	return value.Text(v) + "\n"
}
