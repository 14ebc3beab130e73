// Package parser: expressions, read into trees.
package parser

import (
	"pluck/api"
	"pluck/fault"
	"pluck/token"
	"pluck/tree"
)

// A parser never passes a token that cannot stand where it is, so that the one
// it stops at has the place that a fault tells.
type parser struct {
	tokens []token.Token
	at     int
	deep   int
	// Numbers and calls are judged when all has been read: what is no
	// expression at all is told first.
	large bool
	calls []*tree.Call // in the order of their words
}

// Text is what the text of an expression says.
func Text(text string) (tree.Node, error) {
	if len(text) > api.MaxExpr {
		return nil, fault.Long
	}
	p := parser{tokens: token.Cut(text)}
	n, err := p.expr()
	if err != nil {
		return nil, err
	}
	if p.next().Kind != token.End {
		return nil, p.wrong()
	}
	if p.large {
		return nil, fault.Large
	}
	for _, call := range p.calls {
		if err := judge(call); err != nil {
			return nil, err
		}
	}
	return n, nil
}

func (p *parser) wrong() error { return fault.At{Place: p.next().Place, Cause: fault.Syntax} }

func (p *parser) next() token.Token { return p.tokens[p.at] }

// is tells whether the next token is this sign.
func (p *parser) is(sign string) bool {
	t := p.next()
	return t.Kind == token.Sign && t.Text == sign
}

// take passes the next token if it is this sign.
func (p *parser) take(sign string) bool {
	if !p.is(sign) {
		return false
	}
	p.at++
	return true
}

// deeper passes a sign that is one deeper than what it stands in, and reads
// what belongs to it.
func (p *parser) deeper(read func() (tree.Node, error)) (tree.Node, error) {
	if p.deep == api.MaxDepth {
		return nil, p.wrong()
	}
	p.at++
	p.deep++
	n, err := read()
	p.deep--
	return n, err
}

// row reads things with commas between them, up to the sign that closes.
func (p *parser) row(closing string, thing func() error) error {
	for {
		if err := thing(); err != nil {
			return err
		}
		if p.take(closing) {
			return nil
		}
		if !p.take(",") {
			return p.wrong()
		}
	}
}

func (p *parser) expr() (tree.Node, error) { return p.pairs("|", p.or) }

func (p *parser) or() (tree.Node, error) { return p.pairs("||", p.and) }

func (p *parser) and() (tree.Node, error) { return p.pairs("&&", p.not) }

// pairs reads parts with this sign between them, the left ones first.
func (p *parser) pairs(sign string, part func() (tree.Node, error)) (tree.Node, error) {
	left, err := part()
	for err == nil && p.take(sign) {
		var right tree.Node
		right, err = part()
		left = tree.Pair{Sign: sign, Left: left, Right: right}
	}
	return left, err
}

func (p *parser) not() (tree.Node, error) {
	if !p.is("!") {
		return p.comparison()
	}
	return p.deeper(func() (tree.Node, error) {
		of, err := p.not()
		return tree.Not{Of: of}, err
	})
}

func (p *parser) comparison() (tree.Node, error) {
	left, err := p.chain()
	if err != nil || !compares(p.next()) {
		return left, err
	}
	sign := p.next().Text
	p.at++
	right, err := p.chain()
	return tree.Pair{Sign: sign, Left: left, Right: right}, err
}

func compares(t token.Token) bool {
	if t.Kind != token.Sign {
		return false
	}
	switch t.Text {
	case "==", "!=", "<", "<=", ">", ">=":
		return true
	}
	return false
}
