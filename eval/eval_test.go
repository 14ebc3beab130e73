package eval

import (
	"errors"
	"testing"

	"pluck/fault"
	"pluck/parser"
	"pluck/reader"
	"pluck/value"
)

func read(t *testing.T, json string) value.Value {
	t.Helper()
	v, err := reader.Text(json)
	if err != nil {
		t.Fatal(json, err)
	}
	return v
}

// A closure is made once, and called with one value after the other.
func TestClosureIsCalledAgain(t *testing.T) {
	for expr, want := range map[string][3]string{
		"a": {"1", "null", "null"}, "[*].a": {"null", "[2,3]", "null"}, "*": {"[1]", "null", "null"}, "[?a > `2`]": {"null", `[{"a":3}]`, "null"}, "[a, @]": {`[1,{"a":1}]`, `[null,[{"a":2},{"a":3}]]`, "null"}, "{b: a}": {`{"b":1}`, `{"b":null}`, "null"}, "[-1]": {"null", `{"a":3}`, "null"}, "[::-1]": {"null", `[{"a":3},{"a":2}]`, "null"}, "[].a": {"null", "[2,3]", "null"}, "type(@)": {`"object"`, `"array"`, `"null"`}, "map(&a, to_array(@))": {"[1]", "[2,3]", "[null]"}, "a || 'x'": {"1", `"x"`, `"x"`}, "!@": {"false", "false", "true"}, "a | [@]": {"[1]", "null", "null"},
	} {
		n, err := parser.Text(expr)
		if err != nil {
			t.Fatal(expr, err)
		}
		closure := Closure(n)
		for range 2 {
			for i, json := range []string{`{"a":1}`, `[{"a":2},{"a":3}]`, "null"} {
				if v, err := closure(read(t, json)); err != nil || value.Text(v) != want[i] {
					t.Errorf("%s of %s = %v, %v, want %s", expr, json, v, err, want[i])
				}
			}
		}
	}
}

func TestClosureEndsWithAnError(t *testing.T) {
	for expr, want := range map[string]error{
		"abs('x')": fault.Type, "[?abs(@)]": fault.Type, "[*].sum(`[1e9,1]`)": fault.Large, "[abs('x'), sum(`[1e9,1]`)]": fault.Type, "{a: sum(`[1e9,1]`), b: abs('x')}": fault.Large,
	} {
		n, err := parser.Text(expr)
		if err != nil {
			t.Fatal(expr, err)
		}
		if _, err := Closure(n)(read(t, `["a"]`)); !errors.Is(err, want) {
			t.Errorf("%s ends with %v, want %v", expr, err, want)
		}
	}
}

// The value that is asked is shared by all that is made of it.
func TestClosureLeavesTheValueAlone(t *testing.T) {
	const json = `{"a":[3,1,2,[5,4]],"b":{"c":1,"d":2}}`
	v := read(t, json)
	for _, expr := range []string{"a[]", "a[::-1]", "a[?@]", "a[*]", "b.*", "sort(a[:3])", "reverse(a)", "merge(b, {c: a, e: b})", "{a: b, a: a}", "[a, b]", "a[][]", "to_array(a)", "sort_by(a[:3], &@)", "map(&[@], a)"} {
		n, err := parser.Text(expr)
		if err != nil {
			t.Fatal(expr, err)
		}
		if _, err := Closure(n)(v); err != nil {
			t.Errorf("%s: %v", expr, err)
		}
		if value.Text(v) != json {
			t.Fatalf("%s made the value %s", expr, value.Text(v))
		}
	}
}
