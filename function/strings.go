package function

import (
	"strings"

	"pluck/api"
	"pluck/fault"
	"pluck/reader"
	"pluck/value"
	"pluck/weight"
)

// Strings may be held against each other byte by byte: in UTF-8 no code point
// begins within another, and greater ones have greater bytes.

func startsWith(s, part value.String) value.Bool {
	return value.Bool(strings.HasPrefix(string(s), string(part)))
}

func endsWith(s, part value.String) value.Bool {
	return value.Bool(strings.HasSuffix(string(s), string(part)))
}

// join stops when there is too much, since all together could be far more.
func join(args []Arg) (value.Value, error) {
	between := string(args[0].Value.(value.String))
	var out strings.Builder
	for i, s := range args[1].Value.(value.List) {
		if i > 0 {
			out.WriteString(between)
		}
		out.WriteString(string(s.(value.String)))
		if 1+out.Len() > api.MaxWeight {
			return nil, fault.Large
		}
	}
	return value.String(out.String()), nil
}

func toString(args []Arg) (value.Value, error) {
	if s, ok := args[0].Value.(value.String); ok {
		return s, nil
	}
	return weight.Borne(value.String(value.Text(args[0].Value)))
}

func toNumber(v value.Value) value.Value {
	switch v := v.(type) {
	case value.Number:
		return v
	case value.String:
		if n, ok := reader.Number(string(v)); ok {
			return n
		}
	}
	return value.Null{}
}

func typeWord(v value.Value) value.String {
	switch v.(type) {
	case value.Bool:
		return "boolean"
	case value.Number:
		return "number"
	case value.String:
		return "string"
	case value.List:
		return "array"
	case value.Object:
		return "object"
	}
	return "null"
}
