// Package value: what a JSON text says, and how that is written.
package value

import "pluck/api"

const (
	// Unit is the Number that stands for 1: ten to the power of api.Places.
	Unit = 1000000
	// Limit is the greatest Number.
	Limit = api.MaxNumber * Unit
)

// A Value is a Null, Bool, Number, String, List or Object.
type Value interface{ isValue() }

type Null struct{}

type Bool bool

// A Number counts millionths, so that nothing is ever rounded.
type Number int64

type String string

type List []Value

// An Object keeps its members in their order, and no key twice.
type Object []Member

type Member struct {
	Key   string
	Value Value
}

func (Null) isValue()   {}
func (Bool) isValue()   {}
func (Number) isValue() {}
func (String) isValue() {}
func (List) isValue()   {}
func (Object) isValue() {}

// Get is the value of a key, if the object has it.
func (o Object) Get(key string) (Value, bool) {
	for i := range o {
		if o[i].Key == key {
			return o[i].Value, true
		}
	}
	return nil, false
}

// Values are what the keys have, in order.
func (o Object) Values() List {
	out := make(List, len(o))
	for i := range o {
		out[i] = o[i].Value
	}
	return out
}

// Put gives the key this value, at the place that the key already has, or else
// at the end. It may write into o, which has to be the caller's own.
func (o Object) Put(key string, v Value) Object {
	for i := range o {
		if o[i].Key == key {
			o[i].Value = v
			return o
		}
	}
	return append(o, Member{key, v})
}
