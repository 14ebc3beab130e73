package function

import (
	"slices"
	"strings"
	"unicode/utf8"

	"pluck/value"
	"pluck/weight"
)

func length(v value.Value) value.Number {
	var n int
	switch v := v.(type) {
	case value.String:
		n = utf8.RuneCountInString(string(v))
	case value.List:
		n = len(v)
	case value.Object:
		n = len(v)
	}
	return value.Number(n) * value.Unit
}

func contains(in, v value.Value) value.Bool {
	if s, ok := in.(value.String); ok {
		part, ok := v.(value.String)
		return value.Bool(ok && strings.Contains(string(s), string(part)))
	}
	return value.Bool(slices.ContainsFunc(in.(value.List), func(thing value.Value) bool { return value.Same(thing, v) }))
}

func reverse(v value.Value) value.Value {
	if s, ok := v.(value.String); ok {
		points := []rune(string(s))
		slices.Reverse(points)
		return value.String(points)
	}
	list := slices.Clone(v.(value.List))
	slices.Reverse(list)
	return list
}

func toArray(args []Arg) (value.Value, error) {
	if list, ok := args[0].Value.(value.List); ok {
		return list, nil
	}
	return weight.Borne(value.List{args[0].Value})
}

func mapped(args []Arg) (value.Value, error) {
	var out weight.Gathering
	for _, thing := range args[1].Value.(value.List) {
		v, err := args[0].By(thing)
		if err != nil {
			return nil, err
		}
		if err := out.Add(v); err != nil {
			return nil, err
		}
	}
	return out.List(), nil
}

func notNull(args []Arg) (value.Value, error) {
	for _, arg := range args {
		if arg.Value != (value.Null{}) {
			return arg.Value, nil
		}
	}
	return value.Null{}, nil
}
