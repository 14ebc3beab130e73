package tree

import (
	"strconv"

	"pluck/value"
)

// Text tells how an expression is understood.
func Text(n Node) string { return string(n.show(nil)) }

func appendRow(out []byte, nodes []Node) []byte {
	for i, n := range nodes {
		if i > 0 {
			out = append(out, ' ')
		}
		out = n.show(out)
	}
	return out
}

// appendSigned has a sign or word ahead of the things, and brackets around all.
func appendSigned(out []byte, sign string, nodes ...Node) []byte {
	out = append(out, '(')
	out = append(out, sign...)
	out = append(out, ' ')
	out = appendRow(out, nodes)
	return append(out, ')')
}

func appendString(out []byte, s string) []byte {
	return append(out, value.Text(value.String(s))...)
}

func (p Pair) show(out []byte) []byte { return appendSigned(out, p.Sign, p.Left, p.Right) }

func (n Not) show(out []byte) []byte { return appendSigned(out, "!", n.Of) }

func (e Expression) show(out []byte) []byte { return appendSigned(out, "&", e.Of) }

func (c *Call) show(out []byte) []byte { return appendSigned(out, c.Word, c.Args...) }

func (c Chain) show(out []byte) []byte {
	return appendSigned(out, ".", append([]Node{c.First}, c.Steps...)...)
}

func (n Name) show(out []byte) []byte { return appendString(append(out, '.'), string(n)) }

func (Current) show(out []byte) []byte { return append(out, '@') }

func (r Raw) show(out []byte) []byte { return appendString(out, string(r)) }

func (l Literal) show(out []byte) []byte {
	out = append(out, '`')
	out = append(out, value.Text(l.Value)...)
	return append(out, '`')
}

func (l List) show(out []byte) []byte {
	out = append(out, '[')
	out = appendRow(out, l)
	return append(out, ']')
}

func (o Object) show(out []byte) []byte {
	out = append(out, '{')
	for i, member := range o {
		if i > 0 {
			out = append(out, ' ')
		}
		out = appendString(out, member.Key)
		out = append(out, ' ')
		out = member.Of.show(out)
	}
	return append(out, '}')
}

func (Values) show(out []byte) []byte { return append(out, '*') }

func (i Index) show(out []byte) []byte {
	out = append(out, '[')
	out = strconv.AppendInt(out, int64(i), 10)
	return append(out, ']')
}

func (s Slice) show(out []byte) []byte {
	out = append(out, '[')
	out = append(appendBound(out, s.From), ':')
	out = append(appendBound(out, s.To), ':')
	out = strconv.AppendInt(out, int64(s.By), 10)
	return append(out, ']')
}

func appendBound(out []byte, b Bound) []byte {
	if !b.There {
		return out
	}
	return strconv.AppendInt(out, int64(b.At), 10)
}

func (Things) show(out []byte) []byte { return append(out, "[*]"...) }

func (Flat) show(out []byte) []byte { return append(out, "[]"...) }

func (f Filter) show(out []byte) []byte {
	out = append(out, "[? "...)
	out = f.By.show(out)
	return append(out, ']')
}
