package eval

import (
	"pluck/function"
	"pluck/tree"
	"pluck/value"
	"pluck/weight"
)

func list(nodes []tree.Node) function.Closure {
	things := closures(nodes)
	return unlessNull(func(current value.Value) (value.Value, error) {
		var out weight.Gathering
		for _, thing := range things {
			v, err := thing(current)
			if err != nil {
				return nil, err
			}
			if err := out.Add(v); err != nil {
				return nil, err
			}
		}
		return out.List(), nil
	})
}

func object(members []tree.Member) function.Closure {
	things := make([]function.Closure, len(members))
	for i, member := range members {
		things[i] = Closure(member.Of)
	}
	return unlessNull(func(current value.Value) (value.Value, error) {
		var out value.Object
		for i, thing := range things {
			v, err := thing(current)
			if err != nil {
				return nil, err
			}
			// What the key had before weighs no longer.
			out = out.Put(members[i].Key, v)
			if _, err := weight.Borne(out); err != nil {
				return nil, err
			}
		}
		return out, nil
	})
}

// unlessNull leaves null as it is, with nothing reckoned.
func unlessNull(of function.Closure) function.Closure {
	return func(current value.Value) (value.Value, error) {
		if current == (value.Null{}) {
			return current, nil
		}
		return of(current)
	}
}

func call(n *tree.Call) function.Closure {
	// The parser lets no call through of a function that there is not.
	f, _ := function.Find(n.Word)
	args := make([]arg, len(n.Args))
	for i, node := range n.Args {
		args[i] = argument(node)
	}
	return func(current value.Value) (value.Value, error) {
		reckoned := make([]function.Arg, len(args))
		for i, arg := range args {
			var err error
			if reckoned[i], err = arg(current); err != nil {
				return nil, err
			}
		}
		return f.Call(reckoned)
	}
}

// An arg makes ready what a function is called with.
type arg func(current value.Value) (function.Arg, error)

func argument(n tree.Node) arg {
	if e, ok := n.(tree.Expression); ok {
		by := Closure(e.Of)
		return func(value.Value) (function.Arg, error) { return function.Arg{By: by}, nil }
	}
	of := Closure(n)
	return func(current value.Value) (function.Arg, error) {
		v, err := of(current)
		return function.Arg{Value: v}, err
	}
}
