package parser

import (
	"pluck/fault"
	"pluck/function"
	"pluck/tree"
)

func (p *parser) nameOrCall() (tree.Node, error) {
	word := p.next()
	p.at++
	if !p.is("(") {
		return tree.Name(word.Text), nil
	}
	call := &tree.Call{Word: word.Text, Place: word.Place}
	p.calls = append(p.calls, call)
	return p.deeper(func() (tree.Node, error) {
		err := p.args(call)
		return call, err
	})
}

func (p *parser) args(call *tree.Call) error {
	if p.take(")") {
		return nil
	}
	return p.row(")", func() error {
		arg, err := p.arg()
		call.Args = append(call.Args, arg)
		return err
	})
}

func (p *parser) arg() (tree.Node, error) {
	if !p.take("&") {
		return p.expr()
	}
	of, err := p.expr()
	return tree.Expression{Of: of}, err
}

// judge tells what is wrong with a call, if something is.
func judge(call *tree.Call) error {
	f, ok := function.Find(call.Word)
	if !ok {
		return fault.At{Place: call.Place, Cause: fault.Name}
	}
	if !f.Takes(sorts(call.Args)) {
		return fault.At{Place: call.Place, Cause: fault.Arity}
	}
	return nil
}

// sorts tells of each arg whether it is a value or an expression.
func sorts(args []tree.Node) string {
	out := make([]byte, len(args))
	for i, arg := range args {
		out[i] = function.Value
		if _, ok := arg.(tree.Expression); ok {
			out[i] = function.Expression
		}
	}
	return string(out)
}
