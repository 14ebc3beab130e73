package pluck_test

import (
	"strings"
	"testing"

	"pluck/api"
	"pluck/pluck"
)

// aThing is a value with all the kinds of args that it may be.
type aThing struct{ text, kinds string }

func things() []aThing {
	return []aThing{
		{"null", "any"}, {"true", "any"}, {"false", "any"}, {"0", "any num"}, {"-1.5", "any num"}, {`""`, "any str"}, {`"ab"`, "any str"},
		{"[]", "any list nums strs"}, {"[1]", "any list nums"}, {"[1,2.5]", "any list nums"}, {`["a"]`, "any list strs"}, {`["a",""]`, "any list strs"},
		{`[1,"a"]`, "any list"}, {`["a",1]`, "any list"}, {"[null]", "any list"}, {"[1,null]", "any list"}, {`["a",null]`, "any list"}, {"[true]", "any list"}, {"[[1]]", "any list"}, {"[{}]", "any list"}, {"[[]]", "any list"},
		{"{}", "any obj"}, {`{"a":1}`, "any obj"}, {`{"a":[1]}`, "any obj"},
	}
}

// takes are the functions, with the kinds of each arg; an arg that is an
// expression stands there itself.
func takes() map[string][]string {
	return map[string][]string{
		"abs": {"num"}, "avg": {"nums"}, "ceil": {"num"}, "contains": {"list str", "any"}, "ends_with": {"str", "str"}, "floor": {"num"}, "join": {"str", "strs"}, "keys": {"obj"}, "length": {"str list obj"}, "map": {"&type(@)", "list"}, "max": {"nums strs"}, "max_by": {"list", "&type(@)"}, "merge": {"obj", "obj", "obj"}, "min": {"nums strs"}, "min_by": {"list", "&length(type(@))"}, "not_null": {"any", "any"}, "reverse": {"list str"}, "sort": {"nums strs"}, "sort_by": {"list", "&type(@)"}, "starts_with": {"str", "str"}, "sum": {"nums"}, "to_array": {"any"}, "to_number": {"any"}, "to_string": {"any"}, "type": {"any"}, "values": {"obj"},
	}
}

func (a aThing) isOneOf(kinds string) bool {
	for _, kind := range strings.Fields(kinds) {
		for _, own := range strings.Fields(a.kinds) {
			if own == kind {
				return true
			}
		}
	}
	return false
}

// checkCalls calls the function with each row of things as its args.
func checkCalls(t *testing.T, word string, kinds, args []string, fits bool) {
	t.Helper()
	if len(args) == len(kinds) {
		expr := word + "(" + strings.Join(args, ",") + ")"
		out, e := pluck.Eval(expr, "null")
		if fits && (e != api.OK || out == "") || !fits && (e != api.ErrType || out != "") {
			t.Errorf("%s = %q, %d, but that it takes it is %t", expr, out, e, fits)
		}
		return
	}
	next := kinds[len(args)]
	if next[0] == '&' {
		checkCalls(t, word, kinds, append(args, next), fits)
		return
	}
	for _, thing := range things() {
		checkCalls(t, word, kinds, append(args, "`"+thing.text+"`"), fits && thing.isOneOf(next))
	}
}

func TestP6WhatFunctionsTake(t *testing.T) {
	all := takes()
	if len(all) != 26 {
		t.Errorf("there are %d functions, want 26", len(all))
	}
	for word, kinds := range all {
		checkCalls(t, word, kinds, nil, true)
	}
}

// What max_by and the like are ordered by: all numbers or all strings.
func TestP6WhatIsOrderedBy(t *testing.T) {
	for _, thing := range things() {
		if !thing.isOneOf("list") {
			continue
		}
		want := api.ErrType
		if thing.isOneOf("nums strs") {
			want = api.OK
		}
		for _, word := range []string{"max_by", "min_by", "sort_by"} {
			if _, e := pluck.Eval(word+"(@, &@)", thing.text); e != want {
				t.Errorf("%s of %s: %d, want %d", word, thing.text, e, want)
			}
		}
	}
	for _, word := range []string{"max_by", "min_by", "sort_by"} {
		wantFailed(t, `[{"a":1},{"a":"x"},{}]`, api.ErrType, word+"(@, &a)", word+"([:2], &a)", word+"([::-1], &a)", word+"([1::-1], &a)", word+"(@, &@)", word+"(@, &[a])", word+"(@, &a == a)", word+"([:1], &b)", word+"([0], &a)")
	}
}

// An error within is one of all that is around it.
func TestP6ErrorsOfParts(t *testing.T) {
	const json = `{"s":"x","n":1,"l":[1,"x"],"o":{"a":1,"b":"x"},"z":null}`
	wantFailed(t, json, api.ErrType, "abs(s)", "(abs(s))", "!abs(s)", "!!abs(s)", "abs(s) | n", "s | abs(@)", "abs(s) || n", "z || abs(s)", "abs(s) && n", "n && abs(s)", "abs(s) == n", "n == abs(s)", "z < abs(s)", "abs(s) != n", "abs(s) >= z", "[abs(s)]", "[n, abs(s)]", "{a: abs(s)}", "s.abs(@)", "z.abs(@)", "z.length(@) || n", "abs(s).a", "abs(s)[0]", "abs(s)[*]", "abs(s)[]", "l[*].abs(@)", "o.*.abs(@)", "l[].abs(@)", "l[:].abs(@)", "l[?abs(@)]", "l[?'x'].abs(@)", "abs(abs(s))", "type(abs(s))", "not_null(n, abs(s))", "contains(l, abs(s))", "map(&abs(@), l)", "map(&n, abs(s))", "sort_by(l, &abs(@))", "max_by(l, &abs(@))", "min_by(abs(s), &@)", "merge(o, abs(s))", "map(&map(&abs(@), @), [l])", "s.[abs(@)]", "s.{a: abs(@)}", "(l)[*].abs(@)", "[abs(s)][1]", "[n, abs(s)][0]", "{a: n, b: abs(s)}.a")
	// What is not reckoned has none.
	wantGiven(t, json, "n || abs(s)", "1", "z && abs(s)", "null", "z[*].abs('x')", "null", "z.*.abs('x')", "null", "z[].abs('x')", "null", "z[:].abs('x')", "null", "z[?abs('x')]", "null", "`[]`[*].abs('x')", "[]", "`[]`[?abs('x')]", "[]", "`{}`.*.abs('x')", "[]", "l[?z].abs(@)", "[]", "l[5:].abs(@)", "[]", "z.[abs('x')]", "null", "z.{a: abs('x')}", "null", "map(&abs('x'), `[]`)", "[]", "l[:1].abs(@)", "[1]", "l[*].z.a[*].abs('x')", "[]")
}

// The first error in the order of reckoning is the one that is told.
func TestP7OrderOfReckoning(t *testing.T) {
	const json = `{"l":[["x"],[1e9,1]],"r":[[1e9,1],["x"]],"n":1,"z":null}`
	const asType, asLarge = "abs('x')", "sum(`[1e9,1]`)"
	wantFailed(t, json, api.ErrType, asType)
	wantFailed(t, json, api.ErrLarge, asLarge)
	for _, around := range []string{
		"A | B", "A || B", "A && B", "n && A || B", "A == B", "A < B", "A != B", "[A, B]", "[n, A, B]", "{a: A, b: B}", "{a: A, a: B}", "contains(A, B)", "join(A, B)", "not_null(n, A, B)", "merge(A, B)", "[[A], B]", "A.B", "A[?B]", "[A][*].B", "!A || B", "[n.[A], B]", "type(A) | B", "[n, n][?A].B", "map(&n, A) | B", "map(&B, A)", "sort_by(A, &B)", "max_by([A], &B)", "(A) | (B)", "{a: {b: A}, c: [B]}",
	} {
		wantFailed(t, json, api.ErrType, strings.NewReplacer("A", asType, "B", asLarge).Replace(around))
		wantFailed(t, json, api.ErrLarge, strings.NewReplacer("A", asLarge, "B", asType).Replace(around))
	}
	// Of things the first one's, from the left on.
	wantFailed(t, json, api.ErrType, "l[*].sum(@)", "map(&sum(@), l)", "sort_by(l, &sum(@))", "max_by(l, &sum(@))", "l[?sum(@)]", "r[::-1].sum(@)", "{a: l[0], b: l[1]}.*.sum(@)", "[l[0], l[1]][*].sum(@)")
	wantFailed(t, json, api.ErrLarge, "r[*].sum(@)", "map(&sum(@), r)", "sort_by(r, &sum(@))", "min_by(r, &sum(@))", "r[?sum(@)]", "l[::-1].sum(@)", "{a: r[0], b: r[1]}.*.sum(@)")
}
