// Package function: the functions that an expression may call.
package function

import "strings"

// The args that a call has, or a function takes, are told by a byte for each.
const (
	Value      = 'v'
	Expression = '&'
)

type Function struct {
	word string
	args string
	more bool // of the last arg there may be more
}

func table() []Function {
	return []Function{
		{word: "abs", args: "v"},
		{word: "avg", args: "v"},
		{word: "ceil", args: "v"},
		{word: "contains", args: "vv"},
		{word: "ends_with", args: "vv"},
		{word: "floor", args: "v"},
		{word: "join", args: "vv"},
		{word: "keys", args: "v"},
		{word: "length", args: "v"},
		{word: "map", args: "&v"},
		{word: "max", args: "v"},
		{word: "max_by", args: "v&"},
		{word: "merge", args: "v", more: true},
		{word: "min", args: "v"},
		{word: "min_by", args: "v&"},
		{word: "not_null", args: "v", more: true},
		{word: "reverse", args: "v"},
		{word: "sort", args: "v"},
		{word: "sort_by", args: "v&"},
		{word: "starts_with", args: "vv"},
		{word: "sum", args: "v"},
		{word: "to_array", args: "v"},
		{word: "to_number", args: "v"},
		{word: "to_string", args: "v"},
		{word: "type", args: "v"},
		{word: "values", args: "v"},
	}
}

// Find is the function of this name, if there is one.
func Find(word string) (Function, bool) {
	for _, f := range table() {
		if f.word == word {
			return f, true
		}
	}
	return Function{}, false
}

// Takes tells whether these are args as the function takes them.
func (f Function) Takes(args string) bool {
	rest, ok := strings.CutPrefix(args, f.args)
	if !ok || !f.more {
		return ok && rest == ""
	}
	return strings.Trim(rest, f.args[len(f.args)-1:]) == ""
}
