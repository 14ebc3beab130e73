package eval

import (
	"pluck/function"
	"pluck/value"
)

func not(of function.Closure) function.Closure {
	return func(current value.Value) (value.Value, error) {
		v, err := of(current)
		if err != nil {
			return nil, err
		}
		return value.Bool(value.FalseLike(v)), nil
	}
}

func pair(sign string, left, right function.Closure) function.Closure {
	switch sign {
	case "|":
		return then(left, right)
	case "||":
		return choice(left, right, false)
	case "&&":
		return choice(left, right, true)
	}
	return comparison(left, right, comparer(sign))
}

// then asks the second of what the first gives.
func then(first, second function.Closure) function.Closure {
	return func(current value.Value) (value.Value, error) {
		v, err := first(current)
		if err != nil {
			return nil, err
		}
		return second(v)
	}
}

// choice is what left gives, if that is false like just if it is asked for.
func choice(left, right function.Closure, falseLike bool) function.Closure {
	return func(current value.Value) (value.Value, error) {
		v, err := left(current)
		if err != nil || value.FalseLike(v) == falseLike {
			return v, err
		}
		return right(current)
	}
}

func comparison(left, right function.Closure, compare func(a, b value.Value) value.Value) function.Closure {
	return func(current value.Value) (value.Value, error) {
		a, err := left(current)
		if err != nil {
			return nil, err
		}
		b, err := right(current)
		if err != nil {
			return nil, err
		}
		return compare(a, b), nil
	}
}

func comparer(sign string) func(a, b value.Value) value.Value {
	switch sign {
	case "==":
		return func(a, b value.Value) value.Value { return value.Bool(value.Same(a, b)) }
	case "!=":
		return func(a, b value.Value) value.Value { return value.Bool(!value.Same(a, b)) }
	case "<":
		return ofNumbers(func(a, b value.Number) bool { return a < b })
	case "<=":
		return ofNumbers(func(a, b value.Number) bool { return a <= b })
	case ">":
		return ofNumbers(func(a, b value.Number) bool { return a > b })
	}
	return ofNumbers(func(a, b value.Number) bool { return a >= b })
}

// ofNumbers gives null of all that are not two numbers.
func ofNumbers(compare func(a, b value.Number) bool) func(a, b value.Value) value.Value {
	return func(a, b value.Value) value.Value {
		m, ok := a.(value.Number)
		n, both := b.(value.Number)
		if !ok || !both {
			return value.Null{}
		}
		return value.Bool(compare(m, n))
	}
}
