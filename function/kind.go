package function

import "pluck/value"

// A kind tells whether a value may be the arg; of an expression it is nil.
type kind func(v value.Value) bool

func is[T value.Value](v value.Value) bool {
	_, ok := v.(T)
	return ok
}

// listOf is the kind of lists with such things alone.
func listOf(thing kind) kind {
	return func(v value.Value) bool {
		list, ok := v.(value.List)
		for i := 0; ok && i < len(list); i++ {
			ok = thing(list[i])
		}
		return ok
	}
}

func either(kinds ...kind) kind {
	return func(v value.Value) bool {
		for _, kind := range kinds {
			if kind(v) {
				return true
			}
		}
		return false
	}
}
