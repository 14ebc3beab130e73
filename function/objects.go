package function

import (
	"pluck/value"
	"pluck/weight"
)

func keys(object value.Object) value.List {
	var out value.List
	for _, member := range object {
		out = append(out, value.String(member.Key))
	}
	return out
}

func merge(args []Arg) (value.Value, error) {
	var out value.Object
	for _, arg := range args {
		for _, member := range arg.Value.(value.Object) {
			out = out.Put(member.Key, member.Value)
		}
	}
	return weight.Borne(out)
}
