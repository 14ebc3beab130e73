package parser

import (
	"errors"
	"reflect"
	"strings"
	"testing"

	"pluck/fault"
	"pluck/tree"
)

func TestTextFaults(t *testing.T) {
	for expr, want := range map[string]fault.At{
		"a..b": {Place: 2, Cause: fault.Syntax}, "a.": {Place: 2, Cause: fault.Syntax}, " f(a)": {Place: 1, Cause: fault.Name}, "a.abs()": {Place: 2, Cause: fault.Arity},
	} {
		n, err := Text(expr)
		var at fault.At
		if n != nil || !errors.As(err, &at) || at != want {
			t.Errorf("Text(%q) = %v, %v, want %v", expr, n, err, want)
		}
	}
	if n, err := Text("`1e10`"); n != nil || err != fault.Large {
		t.Errorf("of a number that is none: %v, %v", n, err)
	}
	if n, err := Text(strings.Repeat("a", 121)); n != nil || err != fault.Long {
		t.Errorf("of 121 bytes: %v, %v", n, err)
	}
}

// They are told alike, but are not the same.
func TestStarInAList(t *testing.T) {
	for expr, want := range map[string]tree.Node{
		"[*]":       tree.Things{},
		"@[*]":      tree.Chain{First: tree.Current{}, Steps: []tree.Node{tree.Things{}}},
		"@.[*]":     tree.Chain{First: tree.Current{}, Steps: []tree.Node{tree.List{tree.Values{}}}},
		"[[*]]":     tree.List{tree.Things{}},
		"@.[[*]]":   tree.Chain{First: tree.Current{}, Steps: []tree.Node{tree.List{tree.Things{}}}},
		"[*, *]":    tree.List{tree.Values{}, tree.Values{}},
		"([*])":     tree.Chain{First: tree.Things{}},
		"@.{a:[*]}": tree.Chain{First: tree.Current{}, Steps: []tree.Node{tree.Object{{Key: "a", Of: tree.Things{}}}}},
	} {
		if got, err := Text(expr); err != nil || !reflect.DeepEqual(got, want) {
			t.Errorf("Text(%q) = %#v, %v, want %#v", expr, got, err, want)
		}
	}
}
