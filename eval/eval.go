// Package eval: expressions, made into closures.
package eval

import (
	"pluck/function"
	"pluck/tree"
	"pluck/value"
)

// Closure is what an expression becomes.
func Closure(n tree.Node) function.Closure {
	switch n := n.(type) {
	case tree.Pair:
		return pair(n.Sign, Closure(n.Left), Closure(n.Right))
	case tree.Not:
		return not(Closure(n.Of))
	case tree.Chain:
		return chain(append([]tree.Node{n.First}, n.Steps...))
	case tree.Values, tree.Things, tree.Slice, tree.Filter, tree.Flat:
		return chain([]tree.Node{n})
	case tree.Name:
		return name(string(n))
	case tree.Index:
		return index(int(n))
	case tree.Raw:
		return always(value.String(n))
	case tree.Literal:
		return always(n.Value)
	case tree.List:
		return list(n)
	case tree.Object:
		return object(n)
	case *tree.Call:
		return call(n)
	}
	return current
}

func closures(nodes []tree.Node) []function.Closure {
	out := make([]function.Closure, len(nodes))
	for i, n := range nodes {
		out[i] = Closure(n)
	}
	return out
}

func current(v value.Value) (value.Value, error) { return v, nil }

func always(v value.Value) function.Closure {
	return func(value.Value) (value.Value, error) { return v, nil }
}

func name(key string) function.Closure {
	return func(current value.Value) (value.Value, error) {
		object, _ := current.(value.Object)
		if v, ok := object.Get(key); ok {
			return v, nil
		}
		return value.Null{}, nil
	}
}

func index(at int) function.Closure {
	return func(current value.Value) (value.Value, error) {
		list, _ := current.(value.List)
		i := at
		if i < 0 {
			i += len(list)
		}
		if i < 0 || i >= len(list) {
			return value.Null{}, nil
		}
		return list[i], nil
	}
}
