// Package weight: how heavy a value may be that comes about.
package weight

import (
	"pluck/api"
	"pluck/fault"
	"pluck/value"
)

// Of is what v weighs.
func Of(v value.Value) int {
	weight := 1
	switch v := v.(type) {
	case value.String:
		weight += len(v)
	case value.List:
		for _, thing := range v {
			weight += Of(thing)
		}
	case value.Object:
		for _, member := range v {
			weight += len(member.Key) + Of(member.Value)
		}
	}
	return weight
}

// Borne is v, unless that is too heavy.
func Borne(v value.Value) (value.Value, error) {
	if Of(v) > api.MaxWeight {
		return nil, fault.Large
	}
	return v, nil
}

// A Gathering is a list that grows, and is weighed behind each thing that comes
// to it.
type Gathering struct {
	list   value.List
	things int // what they weigh
}

func (g *Gathering) Add(thing value.Value) error {
	g.list = append(g.list, thing)
	g.things += Of(thing)
	if 1+g.things > api.MaxWeight {
		return fault.Large
	}
	return nil
}

func (g *Gathering) List() value.List { return g.list }
