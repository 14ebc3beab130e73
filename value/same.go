package value

import "slices"

// Same tells whether a and b are of one kind and have the same.
func Same(a, b Value) bool {
	switch a := a.(type) {
	case List:
		b, ok := b.(List)
		return ok && slices.EqualFunc(a, b, Same)
	case Object:
		b, ok := b.(Object)
		return ok && sameMembers(a, b)
	}
	return a == b
}

// sameMembers need not look whether a has all of b's keys: neither has one
// twice, and they have as many.
func sameMembers(a, b Object) bool {
	return len(a) == len(b) && !slices.ContainsFunc(a, func(m Member) bool {
		v, ok := b.Get(m.Key)
		return !ok || !Same(m.Value, v)
	})
}

// FalseLike tells whether v counts as false where one chooses.
func FalseLike(v Value) bool {
	switch v := v.(type) {
	case Null:
		return true
	case Bool:
		return !bool(v)
	case String:
		return v == ""
	case List:
		return len(v) == 0
	case Object:
		return len(v) == 0
	}
	return false
}
