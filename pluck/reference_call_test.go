package pluck_test

import (
	"math/big"
	"regexp"
	"slices"
	"strings"

	"pluck/api"
)

// callOf calls a function, by the document's table.
func callOf(p part, current any) any {
	kinds := takes()[p.sign]
	args := make([]any, len(p.parts))
	var by part
	for i, arg := range p.parts {
		if arg.sign == "&" {
			by = arg.parts[0]
		} else {
			args[i] = arg.of(current)
		}
	}
	for i := range args {
		kind := kinds[min(i, len(kinds)-1)]
		if kind[0] != '&' && !(aThing{kinds: kindsOf(args[i])}).isOneOf(kind) {
			panic(api.ErrType)
		}
	}
	switch p.sign {
	case "map":
		list, weight := []any{}, 1
		for _, thing := range args[1].([]any) {
			list = append(list, by.of(thing))
			weight += weighed(list[len(list)-1])
			bear(weight)
		}
		return list
	case "max_by", "min_by", "sort_by":
		return picked(p.sign[:3], args[0].([]any), orders(args[0].([]any), by))
	case "max", "min", "sort":
		return picked(p.sign[:3], args[0].([]any), args[0].([]any))
	}
	v := plainCall(p.sign, args)
	switch p.sign {
	case "join", "merge", "to_array", "to_string":
		bear(weighed(v))
	}
	return v
}

func orders(list []any, by part) []any {
	var all []any
	for _, thing := range list {
		all = append(all, by.of(thing))
		if kinds := kindsOf(all); !strings.Contains(kinds, "nums") && !strings.Contains(kinds, "strs") {
			panic(api.ErrType)
		}
	}
	return all
}

func isBelow(a, b any) bool {
	if x, ok := a.(*big.Rat); ok {
		return x.Cmp(b.(*big.Rat)) < 0
	}
	return slices.Compare(a.([]rune), b.([]rune)) < 0
}

// picked takes the least, or greatest, out of the list, once or again and again.
func picked(sort string, list, by []any) any {
	list, by = slices.Clone(list), slices.Clone(by)
	out := []any{}
	for len(list) > 0 {
		at := 0
		for i := range by {
			if sort == "max" && isBelow(by[at], by[i]) || sort != "max" && isBelow(by[i], by[at]) {
				at = i
			}
		}
		if sort != "sor" {
			return list[at]
		}
		out = append(out, list[at])
		list, by = slices.Delete(list, at, at+1), slices.Delete(by, at, at+1)
	}
	if sort != "sor" {
		return nil
	}
	return out
}

func total(nums []any) *big.Rat {
	sum := new(big.Rat)
	for _, n := range nums {
		sum.Add(sum, n.(*big.Rat))
	}
	return sum
}

func whole(n int) *big.Rat { return big.NewRat(int64(n), 1) }

// down is the greatest whole number that is not above n.
func down(n *big.Rat) *big.Rat {
	below := new(big.Int).Div(n.Num(), n.Denom())
	return new(big.Rat).SetInt(below)
}

func minus(n *big.Rat) *big.Rat { return new(big.Rat).Neg(n) }

func average(nums []any) any {
	if len(nums) == 0 {
		return nil
	}
	exact := new(big.Rat).Quo(total(nums), big.NewRat(int64(len(nums)), 1000000))
	near := down(new(big.Rat).Add(exact, big.NewRat(1, 2)))
	if new(big.Rat).Sub(near, exact).Cmp(big.NewRat(1, 2)) == 0 && near.Num().Bit(0) == 1 {
		near.Sub(near, whole(1))
	}
	return near.Quo(near, whole(1000000))
}

var aJSONNumber = regexp.MustCompile(`^-?(0|[1-9][0-9]*)(\.[0-9]+)?([eE][-+]?[0-9]+)?$`)

func numbered(v any) any {
	switch v := v.(type) {
	case *big.Rat:
		return v
	case []rune:
		if aJSONNumber.MatchString(string(v)) && fits(string(v)) {
			n, _ := new(big.Rat).SetString(string(v))
			return n
		}
	}
	return nil
}

func plainCall(word string, args []any) any {
	switch word {
	case "abs":
		return new(big.Rat).Abs(args[0].(*big.Rat))
	case "floor":
		return down(args[0].(*big.Rat))
	case "ceil":
		return minus(down(minus(args[0].(*big.Rat))))
	case "avg":
		return average(args[0].([]any))
	case "sum":
		sum := total(args[0].([]any))
		if new(big.Rat).Abs(sum).Cmp(whole(1000000000)) > 0 {
			panic(api.ErrLarge)
		}
		return sum
	case "to_number":
		return numbered(args[0])
	case "to_array":
		if strings.Contains(kindsOf(args[0]), "list") {
			return args[0]
		}
		return []any{args[0]}
	case "type":
		return []rune(typed(args[0]))
	case "to_string":
		if s, ok := args[0].([]rune); ok {
			return s
		}
		return []rune(written(args[0]))
	case "not_null":
		return append(slices.DeleteFunc(args, func(v any) bool { return v == nil }), nil)[0]
	case "merge":
		all := newMembers()
		for _, object := range args {
			for _, key := range object.(*members).keys {
				all.set(key, object.(*members).values[key])
			}
		}
		return all
	}
	return partCall(word, args)
}

func typed(v any) string {
	switch v.(type) {
	case nil:
		return "null"
	case bool:
		return "boolean"
	case *big.Rat:
		return "number"
	case []rune:
		return "string"
	case []any:
		return "array"
	}
	return "object"
}

func partCall(word string, args []any) any {
	switch of := args[0].(type) {
	case *members:
		var keys, values []any
		for _, key := range of.keys {
			keys, values = append(keys, []rune(key)), append(values, of.values[key])
		}
		switch word {
		case "keys":
			return keys
		case "values":
			return values
		}
		return whole(len(keys))
	case []any:
		switch word {
		case "length":
			return whole(len(of))
		case "contains":
			return slices.ContainsFunc(of, func(thing any) bool { return inOrder(thing) == inOrder(args[1]) })
		}
		out := []any{}
		for i := range of {
			out = append(out, of[len(of)-1-i])
		}
		return out
	}
	return textCall(word, args)
}

func textCall(word string, args []any) any {
	of := args[0].([]rune)
	switch word {
	case "length":
		return whole(len(of))
	case "reverse":
		out := []rune{}
		for i := range of {
			out = append(out, of[len(of)-1-i])
		}
		return out
	case "join":
		var all []rune
		for i, s := range args[1].([]any) {
			if i > 0 {
				all = append(all, of...)
			}
			all = append(all, s.([]rune)...)
		}
		return all
	}
	other, ok := args[1].([]rune)
	for i := 0; ok && i+len(other) <= len(of); i++ {
		if slices.Equal(of[i:i+len(other)], other) && (word != "starts_with" || i == 0) && (word != "ends_with" || i+len(other) == len(of)) {
			return true
		}
	}
	return false
}
