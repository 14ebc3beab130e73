package parser

import (
	"pluck/token"
	"pluck/tree"
)

func (p *parser) chain() (tree.Node, error) {
	first, err := p.first()
	var steps []tree.Node
	for err == nil && (p.is(".") || p.is("[")) {
		var step tree.Node
		step, err = p.step()
		steps = append(steps, step)
	}
	if err != nil || len(steps) == 0 {
		return first, err
	}
	return tree.Chain{First: first, Steps: steps}, nil
}

func (p *parser) first() (tree.Node, error) {
	switch t := p.next(); t.Kind {
	case token.Raw:
		p.at++
		return tree.Raw(t.Text), nil
	case token.Literal:
		p.at++
		p.large = p.large || t.Large
		return tree.Literal{Value: t.Value}, nil
	}
	switch {
	case p.take("@"):
		return tree.Current{}, nil
	case p.is("("):
		return p.deeper(p.inBrackets)
	case p.is("["):
		return p.deeper(p.bracketOrList)
	}
	return p.part()
}

func (p *parser) step() (tree.Node, error) {
	if p.is("[") {
		return p.deeper(p.bracket)
	}
	p.at++
	if p.is("[") {
		return p.deeper(p.list)
	}
	return p.part()
}

// part reads what may be both the first thing of a chain and, behind a point,
// a later one.
func (p *parser) part() (tree.Node, error) {
	switch p.next().Kind {
	case token.Word:
		return p.nameOrCall()
	case token.Quoted:
		name, err := p.name()
		return tree.Name(name), err
	}
	switch {
	case p.take("*"):
		return tree.Values{}, nil
	case p.is("{"):
		return p.deeper(p.object)
	}
	return nil, p.wrong()
}

func (p *parser) name() (string, error) {
	t := p.next()
	if t.Kind != token.Word && t.Kind != token.Quoted {
		return "", p.wrong()
	}
	p.at++
	return t.Text, nil
}

func (p *parser) inBrackets() (tree.Node, error) {
	n, err := p.expr()
	if err != nil {
		return nil, err
	}
	if !p.take(")") {
		return nil, p.wrong()
	}
	return alone(n), nil
}

// alone keeps what could be a step, and so reach on over the steps behind it,
// as a chain of its own.
func alone(n tree.Node) tree.Node {
	switch n.(type) {
	case tree.Values, tree.Index, tree.Slice, tree.Things, tree.Flat, tree.Filter:
		return tree.Chain{First: n}
	}
	return n
}

func (p *parser) list() (tree.Node, error) {
	var list tree.List
	err := p.row("]", func() error {
		n, err := p.expr()
		list = append(list, n)
		return err
	})
	return list, err
}

func (p *parser) object() (tree.Node, error) {
	var object tree.Object
	err := p.row("}", func() error {
		key, err := p.name()
		if err != nil {
			return err
		}
		if !p.take(":") {
			return p.wrong()
		}
		n, err := p.expr()
		object = append(object, tree.Member{Key: key, Of: n})
		return err
	})
	return object, err
}
