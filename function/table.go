package function

import (
	"slices"

	"pluck/value"
)

func table() []Function {
	var num, str, list, obj kind = is[value.Number], is[value.String], is[value.List], is[value.Object]
	var whatever, expr kind = is[value.Value], nil
	nums, strs := listOf(num), listOf(str)
	return []Function{
		{word: "abs", args: []kind{num}, do: one(abs)},
		{word: "avg", args: []kind{nums}, do: one(avg)},
		{word: "ceil", args: []kind{num}, do: one(ceil)},
		{word: "contains", args: []kind{either(list, str), whatever}, do: two(contains)},
		{word: "ends_with", args: []kind{str, str}, do: two(endsWith)},
		{word: "floor", args: []kind{num}, do: one(floor)},
		{word: "join", args: []kind{str, strs}, do: join},
		{word: "keys", args: []kind{obj}, do: one(keys)},
		{word: "length", args: []kind{either(str, list, obj)}, do: one(length)},
		{word: "map", args: []kind{expr, list}, do: mapped},
		{word: "max", args: []kind{either(nums, strs)}, do: best(slices.MaxFunc)},
		{word: "max_by", args: []kind{list, expr}, do: best(slices.MaxFunc)},
		{word: "merge", args: []kind{obj}, more: true, do: merge},
		{word: "min", args: []kind{either(nums, strs)}, do: best(slices.MinFunc)},
		{word: "min_by", args: []kind{list, expr}, do: best(slices.MinFunc)},
		{word: "not_null", args: []kind{whatever}, more: true, do: notNull},
		{word: "reverse", args: []kind{either(list, str)}, do: one(reverse)},
		{word: "sort", args: []kind{either(nums, strs)}, do: sorted},
		{word: "sort_by", args: []kind{list, expr}, do: sorted},
		{word: "starts_with", args: []kind{str, str}, do: two(startsWith)},
		{word: "sum", args: []kind{nums}, do: sum},
		{word: "to_array", args: []kind{whatever}, do: toArray},
		{word: "to_number", args: []kind{whatever}, do: one(toNumber)},
		{word: "to_string", args: []kind{whatever}, do: toString},
		{word: "type", args: []kind{whatever}, do: one(typeWord)},
		{word: "values", args: []kind{obj}, do: one(value.Object.Values)},
	}
}

// one is the body of a function of one arg that always gives something.
func one[A, B value.Value](do func(A) B) body {
	return func(args []Arg) (value.Value, error) { return do(args[0].Value.(A)), nil }
}

// two is likewise of two args.
func two[A, B, C value.Value](do func(A, B) C) body {
	return func(args []Arg) (value.Value, error) { return do(args[0].Value.(A), args[1].Value.(B)), nil }
}
