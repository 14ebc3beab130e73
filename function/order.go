package function

import (
	"cmp"
	"slices"

	"pluck/fault"
	"pluck/value"
)

// A ranked is a thing of a list, with what it is ordered by.
type ranked struct{ thing, by value.Value }

// rank looks at what each thing is ordered by as it comes. Without an
// expression they are ordered by themselves.
func rank(args []Arg) ([]ranked, error) {
	list := args[0].Value.(value.List)
	out := make([]ranked, len(list))
	var fits kind = either(is[value.Number], is[value.String])
	for i, thing := range list {
		by := thing
		if len(args) > 1 {
			var err error
			if by, err = args[1].By(thing); err != nil {
				return nil, err
			}
		}
		if !fits(by) {
			return nil, fault.Type
		}
		out[i] = ranked{thing, by}
		fits = is[value.String]
		if is[value.Number](by) {
			fits = is[value.Number]
		}
	}
	return out, nil
}

func compare(a, b ranked) int {
	if n, ok := a.by.(value.Number); ok {
		return cmp.Compare(n, b.by.(value.Number))
	}
	return cmp.Compare(a.by.(value.String), b.by.(value.String))
}

// best is the body of a function that picks one thing: of several, the first.
func best(pick func([]ranked, func(a, b ranked) int) ranked) body {
	return func(args []Arg) (value.Value, error) {
		all, err := rank(args)
		if err != nil || len(all) == 0 {
			return value.Null{}, err
		}
		return pick(all, compare).thing, nil
	}
}

func sorted(args []Arg) (value.Value, error) {
	all, err := rank(args)
	if err != nil {
		return nil, err
	}
	slices.SortStableFunc(all, compare)
	out := make(value.List, len(all))
	for i := range all {
		out[i] = all[i].thing
	}
	return out, nil
}
