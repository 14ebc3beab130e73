package eval

import (
	"pluck/function"
	"pluck/tree"
	"pluck/value"
	"pluck/weight"
)

// chain cuts ahead of each `[]`, up to which the projections there reach.
func chain(parts []tree.Node) function.Closure {
	whole := function.Closure(current)
	for len(parts) > 0 {
		end := 1
		for end < len(parts) && parts[end] != (tree.Flat{}) {
			end++
		}
		whole = then(whole, reach(parts[:end]))
		parts = parts[end:]
	}
	return whole
}

// reach does each part to what the one ahead gave; but behind a projection all
// is done to each of its values.
func reach(parts []tree.Node) function.Closure {
	if len(parts) == 0 {
		return current
	}
	rest := reach(parts[1:])
	if pick := through(parts[0]); pick != nil {
		return projection(pick, rest)
	}
	return then(Closure(parts[0]), rest)
}

func projection(pick picker, rest function.Closure) function.Closure {
	return func(current value.Value) (value.Value, error) {
		things, ok, err := pick(current)
		if err != nil || !ok {
			return value.Null{}, err
		}
		var out weight.Gathering
		for _, thing := range things {
			v, err := rest(thing)
			if err != nil {
				return nil, err
			}
			if v == (value.Null{}) {
				continue
			}
			if err := out.Add(v); err != nil {
				return nil, err
			}
		}
		return out.List(), nil
	}
}
