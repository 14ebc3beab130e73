package parser

import (
	"pluck/token"
	"pluck/tree"
)

func (p *parser) bracketOrList() (tree.Node, error) {
	if p.beginsBracket() {
		return p.bracket()
	}
	return p.list()
}

func (p *parser) beginsBracket() bool {
	if p.is("*") {
		behind := p.tokens[p.at+1]
		return behind.Kind == token.Sign && behind.Text == "]"
	}
	return p.next().Kind == token.Whole || p.is("]") || p.is(":") || p.is("?")
}

func (p *parser) bracket() (tree.Node, error) {
	n, err := p.inBracket()
	if err != nil {
		return nil, err
	}
	if !p.take("]") {
		return nil, p.wrong()
	}
	return n, nil
}

func (p *parser) inBracket() (tree.Node, error) {
	switch {
	case p.is("]"):
		return tree.Flat{}, nil
	case p.take("*"):
		return tree.Things{}, nil
	case p.take("?"):
		by, err := p.expr()
		return tree.Filter{By: by}, err
	}
	return p.indexOrSlice()
}

func (p *parser) indexOrSlice() (tree.Node, error) {
	from := p.bound()
	if p.take(":") {
		return p.slice(from)
	}
	if !from.There {
		return nil, p.wrong()
	}
	return tree.Index(from.At), nil
}

// slice reads what is behind a slice's first colon.
func (p *parser) slice(from tree.Bound) (tree.Node, error) {
	s := tree.Slice{From: from, To: p.bound(), By: 1}
	if !p.take(":") {
		return s, nil
	}
	if t := p.next(); t.Kind == token.Whole && t.Whole == 0 {
		return nil, p.wrong()
	}
	if by := p.bound(); by.There {
		s.By = by.At
	}
	return s, nil
}

// bound passes the next token if it is a whole number.
func (p *parser) bound() tree.Bound {
	t := p.next()
	if t.Kind != token.Whole {
		return tree.Bound{}
	}
	p.at++
	return tree.Bound{There: true, At: t.Whole}
}
