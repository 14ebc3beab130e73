package value

import (
	"strconv"
	"strings"
)

const (
	escaped = "\"\\\b\f\n\r\t"
	escapes = `"\bfnrt`
	hex     = "0123456789abcdef"
)

// Text is v, written in one way.
func Text(v Value) string { return string(appendValue(nil, v)) }

func appendValue(out []byte, v Value) []byte {
	switch v := v.(type) {
	case Bool:
		return strconv.AppendBool(out, bool(v))
	case Number:
		return appendNumber(out, v)
	case String:
		return appendString(out, string(v))
	case List:
		return appendList(out, v)
	case Object:
		return appendObject(out, v)
	}
	return append(out, "null"...)
}

func appendNumber(out []byte, n Number) []byte {
	if n < 0 {
		out = append(out, '-')
		n = -n
	}
	out = strconv.AppendInt(out, int64(n/Unit), 10)
	rest := n % Unit
	if rest == 0 {
		return out
	}
	// Unit puts a 1 ahead, without which the noughts behind the point were lost.
	digits := strconv.FormatInt(int64(Unit+rest), 10)[1:]
	out = append(out, '.')
	return append(out, strings.TrimRight(digits, "0")...)
}

func appendString(out []byte, s string) []byte {
	out = append(out, '"')
	for i := range len(s) {
		out = appendByte(out, s[i])
	}
	return append(out, '"')
}

// appendByte may go byte by byte, since all that is escaped is below 128, and
// no such byte stands within a longer code point.
func appendByte(out []byte, b byte) []byte {
	if at := strings.IndexByte(escaped, b); at >= 0 {
		return append(out, '\\', escapes[at])
	}
	if b < ' ' {
		return append(out, '\\', 'u', '0', '0', hex[b>>4], hex[b&15])
	}
	return append(out, b)
}

func appendList(out []byte, list List) []byte {
	out = append(out, '[')
	for i, thing := range list {
		if i > 0 {
			out = append(out, ',')
		}
		out = appendValue(out, thing)
	}
	return append(out, ']')
}

func appendObject(out []byte, object Object) []byte {
	out = append(out, '{')
	for i, member := range object {
		if i > 0 {
			out = append(out, ',')
		}
		out = appendString(out, member.Key)
		out = append(out, ':')
		out = appendValue(out, member.Value)
	}
	return append(out, '}')
}
