package eval

import (
	"pluck/function"
	"pluck/tree"
	"pluck/value"
)

// A picker picks what a projection goes through, if current is of the kind
// that it can go through.
type picker func(current value.Value) (value.List, bool, error)

// through is how a part picks what it goes through: nil if it is no projection.
func through(n tree.Node) picker {
	switch n := n.(type) {
	case tree.Values:
		return members
	case tree.Things:
		return ofList(func(list value.List) (value.List, error) { return list, nil })
	case tree.Slice:
		return ofList(func(list value.List) (value.List, error) { return sliced(n, list), nil })
	case tree.Filter:
		by := Closure(n.By)
		return ofList(func(list value.List) (value.List, error) { return filtered(by, list) })
	case tree.Flat:
		return ofList(func(list value.List) (value.List, error) { return flattened(list), nil })
	}
	return nil
}

func members(current value.Value) (value.List, bool, error) {
	object, ok := current.(value.Object)
	return object.Values(), ok, nil
}

func ofList(pick func(list value.List) (value.List, error)) picker {
	return func(current value.Value) (value.List, bool, error) {
		list, ok := current.(value.List)
		if !ok {
			return nil, false, nil
		}
		things, err := pick(list)
		return things, true, err
	}
}

func sliced(s tree.Slice, list value.List) value.List {
	n := len(list)
	var out value.List
	if s.By > 0 {
		to := bound(s.To, n, 0, n, n)
		for at := bound(s.From, n, 0, n, 0); at < to; at += s.By {
			out = append(out, list[at])
		}
		return out
	}
	to := bound(s.To, n, -1, n-1, -1)
	for at := bound(s.From, n, -1, n-1, n-1); at > to; at += s.By {
		out = append(out, list[at])
	}
	return out
}

// bound is where a slice of n things begins or ends, cut to low to high.
func bound(b tree.Bound, n, low, high, notThere int) int {
	if !b.There {
		return notThere
	}
	at := b.At
	if at < 0 {
		at += n
	}
	return min(max(at, low), high)
}

func filtered(by function.Closure, list value.List) (value.List, error) {
	var out value.List
	for _, thing := range list {
		v, err := by(thing)
		if err != nil {
			return nil, err
		}
		if !value.FalseLike(v) {
			out = append(out, thing)
		}
	}
	return out, nil
}

func flattened(list value.List) value.List {
	var out value.List
	for _, thing := range list {
		if things, ok := thing.(value.List); ok {
			out = append(out, things...)
		} else {
			out = append(out, thing)
		}
	}
	return out
}
