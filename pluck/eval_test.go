package pluck_test

import (
	"strconv"
	"strings"
	"testing"

	"pluck/api"
	"pluck/pluck"
)

// wantGiven asks one expression after the other of one text: pairs of an
// expression and what it gives.
func wantGiven(t *testing.T, json string, pairs ...string) {
	t.Helper()
	for i := 0; i < len(pairs); i += 2 {
		if out, e := pluck.Eval(pairs[i], json); out != pairs[i+1] || e != api.OK {
			t.Errorf("%s of %.100s = %.200s, %d, want %.200s", pairs[i], json, out, e, pairs[i+1])
		}
	}
}

func wantFailed(t *testing.T, json string, want api.Errno, exprs ...string) {
	t.Helper()
	for _, expr := range exprs {
		if out, e := pluck.Eval(expr, json); out != "" || e != want {
			t.Errorf("%s of %.100s = %.100q, %d, want error %d", expr, json, out, e, want)
		}
	}
}

func TestP5Examples(t *testing.T) {
	const json = `{"a":[{"b":1},{"b":[2,3]},{}]}`
	wantGiven(t, json, "a[*].b", "[1,[2,3]]", "a[].b[]", "[1,2,3]", "a[?b].b | [0]", "1", "a[-1]", "{}", "length(a)", "3", "a[*].b[0]", "[2]")
	wantFailed(t, json, api.ErrType, "sort(a)")
	wantGiven(t, "[3,1,2]", "sort(@)", "[1,2,3]", "[::-1]", "[2,1,3]", "avg(@)", "2", "max_by(@, &abs(@))", "3", "[?@ > @]", "[]")
}

func TestP5FirstErrorIsTold(t *testing.T) {
	long := strings.Repeat(" ", 1001)
	for _, c := range []struct {
		expr, json string
		want       api.Errno
	}{
		{strings.Repeat("a", 121), long, api.ErrLong},
		{strings.Repeat("a", 121), "1", api.ErrLong},
		{"a..b", long, api.ErrSyntax}, {"a b", "x", api.ErrSyntax}, {"", "", api.ErrSyntax}, {"`1e10` f() #", "1", api.ErrSyntax},
		{"f(`1e10`)", "x", api.ErrLarge}, {"f(abs('x'))", long, api.ErrName}, {"f(@)", "1", api.ErrName}, {"abs(f())", "1e10", api.ErrName}, {"abs(f(), @)", "1e10", api.ErrArity},
		{"abs()", "x", api.ErrArity}, {"map(@, @)", "1e10", api.ErrArity}, {"abs(@, @)", "[]", api.ErrArity},
		{"abs('x')", long, api.ErrLong}, {"@", long, api.ErrLong},
		{"abs('x')", "[1,]", api.ErrJSON}, {"@", "", api.ErrJSON}, {"'a'", "[1", api.ErrJSON}, {"@", "[1e10", api.ErrJSON},
		{"abs('x')", "1e10", api.ErrLarge}, {"'a'", `{"a":1e-7}`, api.ErrLarge}, {"@", `{"a":1e10,"a":1}`, api.ErrLarge},
		{"abs('x')", "1", api.ErrType}, {"sum(`[1e9,1]`)", "1", api.ErrLarge},
	} {
		wantFailed(t, c.json, c.want, c.expr)
	}
	// At the bounds there is no error.
	wantGiven(t, "1"+strings.Repeat(" ", 999), "@"+strings.Repeat(" ", 119), "1")
}

// Whatever Show and Compact say of one of the two, Eval says.
func TestP5ErrorsAreThoseOfTheOthers(t *testing.T) {
	exprs := []string{"@", "a.b", "", "a..b", "f()", "abs()", "`1e10`", "!!!!!!!!!!!!!@", strings.Repeat("a", 121), "'\xff'", "\x00", "type(&@)", "[0:1:0]"}
	texts := []string{"1", `{"a":{"b":null}}`, "", "[1,]", "1e10", "1e-7", strings.Repeat("[", 13) + strings.Repeat("]", 13), strings.Repeat("1", 1001), "\ufeff1", `"\ud800"`, "1 2"}
	for _, expr := range exprs {
		for _, json := range texts {
			_, _, want := pluck.Show(expr)
			if want == api.OK {
				_, _, want = pluck.Compact(json)
			}
			if out, e := pluck.Eval(expr, json); e != want || (out == "") != (e != api.OK) {
				t.Errorf("Eval(%.60q, %.60q) = %q, %d, want %d", expr, json, out, e, want)
			}
		}
	}
}

func TestP5CurrentIsTheValue(t *testing.T) {
	for _, json := range []string{
		"null", "true", "false", "0", "-1.5", `""`, `"a\u0000\u00e9\n"`, "[]", "{}", `{"b":1,"a":[{}],"b":null}`, "[[[[[[[[[[[[1]]]]]]]]]]]]", `{"":{"":""}}`, " [ 1e2 , 1.0 ] ", "\"😀\u2028\x7f\"", "1000000000", "-0.000001",
	} {
		want, _, _ := pluck.Compact(json)
		wantGiven(t, json, "@", want, " ( @ ) ", want, "@|@", want, "@.not_null(@)", want, "'x' | @ | 'y' && @", `"x"`)
	}
}

func TestP5Names(t *testing.T) {
	const json = `{"a":{"a":1,"b":null,"c":false},"b":[{"a":1}],"":2,"e e":3,"é":4,"a.b":5,"A":6,"null":7}`
	wantGiven(t, json, "a.a", "1", "a.b", "null", "a.c", "false", "a.d", "null", "a.a.a", "null", "a.b.a", "null", "b.a", "null", `""`, "2", `"e e"`, "3", `"é"`, "4", `"\u00e9"`, "4", `"a.b"`, "5", "A", "6", "null", "7", "null.a", "null", "x.y.z", "null", "@.a.a", "1", "(a).a", "1", `"a"."a"`, "1", "'a'.a", "null", "length.a", "null")
	for _, json := range []string{"null", "true", "1", `"a"`, "[]", `[{"a":1}]`, "{}", `{"b":1}`, `[["a",1]]`} {
		wantGiven(t, json, "a", "null", "a.b", "null", `"a"`, "null")
	}
}

func TestP5RawsAndLiterals(t *testing.T) {
	for _, json := range []string{"null", "[1]", `{"a":1}`} {
		wantGiven(t, json, "'a'", `"a"`, "''", `""`, `'\'\\'`, `"'\\"`, "'\n\"'", `"\n\""`, "`null`", "null", "` [ 1.50 , {\"a\" : 1, \"b\":2, \"a\":3} ] `", `[1.5,{"a":3,"b":2}]`, "`\"\\u0060\"`", "\"`\"", "@.a || 'b'", map[bool]string{true: "1", false: `"b"`}[json == `{"a":1}`], "`{\"a\":{\"b\":1}}`.a.b", "1", "`[1,2]`[1]", "2")
	}
}

func TestP5Signs(t *testing.T) {
	const json = `{"n":null,"f":false,"t":true,"z":0,"s":"","l":[],"o":{},"ln":[null],"on":{"a":null},"a":"a"}`
	falseLike, trueLike := []string{"n", "f", "s", "l", "o", "w"}, []string{"t", "z", "ln", "on", "a"}
	given := map[string]string{"n": "null", "f": "false", "t": "true", "z": "0", "s": `""`, "l": "[]", "o": "{}", "w": "null", "ln": "[null]", "on": `{"a":null}`, "a": `"a"`}
	for name, want := range given {
		wantGiven(t, json, name, want)
	}
	for _, name := range falseLike {
		wantGiven(t, json, "!"+name, "true", "!!"+name, "false", name+" || 'x'", `"x"`, name+" || n", "null", name+" && 'x'", given[name], name+" && abs('x')", given[name], "'x' && "+name, given[name], "n || "+name, given[name])
	}
	for _, name := range trueLike {
		wantGiven(t, json, "!"+name, "false", "!!"+name, "true", name+" || 'x'", given[name], name+" || abs('x')", given[name], name+" && 'x'", `"x"`, name+" && n", "null", "n || "+name, given[name])
	}
	wantGiven(t, json,
		"n || f || s", `""`, "t && a && z", "0", "n && t || a", `"a"`, "a || n && abs('x')", `"a"`, "(n || a) && z", "0", "!n && !f", "true", "!(n || a)", "false", "!n || abs('x')", "true",
		"on | a", "null", "a | a", "null", "on | keys(@) | [0] | length(@)", "1", "n | type(@)", `"null"`, "a || on | a", "null", "a || (on | a)", `"a"`, "t | 'x'", `"x"`)
}

func TestP5Comparisons(t *testing.T) {
	things := []string{"null", "false", "true", "0", "1", "-1", "0.000001", `""`, `"0"`, `"a"`, `"é"`, "[]", "[0]", "[0,1]", "[1,0]", "[null]", "{}", `{"a":0}`, `{"b":0}`, `{"a":0,"b":[1]}`, `{"a":null}`, "[[]]", "[{}]"}
	json := "[" + strings.Join(things, ",") + "]"
	numbers := map[string]float64{"0": 0, "1": 1, "-1": -1, "0.000001": 0.000001}
	for i, a := range things {
		for k, b := range things {
			pair := func(sign string) string { return "[" + strconv.Itoa(i) + "] " + sign + " [" + strconv.Itoa(k) + "]" }
			wantGiven(t, json, pair("=="), strconv.FormatBool(i == k), pair("!="), strconv.FormatBool(i != k))
			x, ok := numbers[a]
			y, both := numbers[b]
			if !ok || !both {
				wantGiven(t, json, pair("<"), "null", pair("<="), "null", pair(">"), "null", pair(">="), "null")
				continue
			}
			wantGiven(t, json, pair("<"), strconv.FormatBool(x < y), pair("<="), strconv.FormatBool(x <= y), pair(">"), strconv.FormatBool(x > y), pair(">="), strconv.FormatBool(x >= y))
		}
	}
	wantGiven(t, `[{"a":1,"b":{"c":[1],"d":2}},{"b":{"d":2.0,"c":[1e0]},"a":1},{"a":1,"b":{"c":[1],"d":3}}]`, "[0] == [1]", "true", "[1] == [0]", "true", "[0] == [2]", "false", "[0].b == [1].b", "true", "[0] != [1]", "false", "[0] == {b: [0].b, a: [0].a}", "true", "@ == [[0], [1], [2]]", "true", "@ == [[1], [0], [2]]", "true", "@ == [[0], [2], [1]]", "false", "[?@ == `{\"b\":{\"d\":2,\"c\":[1]},\"a\":1}`] | length(@)", "2")
	// What is behind a sign belongs to its side; `!` is of the comparison.
	wantGiven(t, `{"a":1,"b":[1,2]}`, "a == b[0]", "true", "b[*] == b", "true", "!a == a", "false", "!(a) == `false`", "true", "a < b[1] && a > `0`", "true", "a == a | !@", "false", "[a == a, a]", "[true,1]", "`[1]` == `[1.0]`", "true", "'a' == `\"\\u0061\"`", "true", "a == '1'", "false")
}

func TestP5Lists(t *testing.T) {
	const json = `{"a":1,"b":[2,null],"c":{"d":3},"n":null,"f":false,"e":[]}`
	wantGiven(t, json, "[a]", "[1]", "[a, b, x]", "[1,[2,null],null]", "[n]", "[null]", "c.[d, e, @]", `[3,null,{"d":3}]`, "n.[a]", "null", "x.[a]", "null", "f.[@, a]", "[false,null]", "a.[@]", "[1]", "e.[@]", "[[]]", "''.[@]", `[""]`, "[[a]]", "[[1]]", "[[a], [[b[0]]]]", "[[1],[[2]]]", "c.[*]", "[[3]]", "c.[*, d]", "[[3],3]", "c.[[*]]", "[null]", "b.[[*]]", "[[2]]", "b.[*]", "[null]", "n.[abs('x')]", "null", "[a, a | @]", "[1,1]", "[a || b, a && b]", "[1,[2,null]]", "[a][0]", "1", "[a, b][]", "[1,2]", "[a, n][*]", "[1]", "(n).[a]", "null", "n | [a]", "null")
	wantGiven(t, "null", "[@]", "null", "[abs('x')]", "null", "[@][0]", "null", "[[@]]", "null")
}

func TestP5Objects(t *testing.T) {
	const json = `{"a":1,"b":[2,null],"c":{"d":3},"n":null,"f":false}`
	wantGiven(t, json, "{x: a}", `{"x":1}`, "{z: a, y: b, \"\": q}", `{"z":1,"y":[2,null],"":null}`, "c.{d: d, e: e, \"é\\n\": @}", `{"d":3,"e":null,"é\n":{"d":3}}`, "n.{a: a}", "null", "x.{a: a}", "null", "f.{a: @}", `{"a":false}`, "{a: {a: a}}", `{"a":{"a":1}}`, "{a: a}.a", "1", "{x: a, y: b, x: c}", `{"x":{"d":3},"y":[2,null]}`, "{x: a, x: n}", `{"x":null}`, "{x: a, \"\\u0078\": b, y: n}", `{"x":[2,null],"y":null}`, "{b: a, a: b}.*", "[1,[2,null]]", "n.{a: abs('x')}", "null", "{a: a | @}", `{"a":1}`, "b.{a: [0]}", `{"a":2}`)
	wantGiven(t, "null", "{a: @}", "null", "{a: abs('x')}", "null", "{a: @}.a", "null")
	// Both are reckoned, though one value is left.
	wantFailed(t, json, api.ErrType, "{x: abs('x'), x: a}", "{x: a, x: abs('x')}")
}

func TestP5Index(t *testing.T) {
	wantGiven(t, `[10,null,[30,31]]`, "[0]", "10", "[1]", "null", "[2]", "[30,31]", "[3]", "null", "[-1]", "[30,31]", "[-3]", "10", "[-4]", "null", "[999999]", "null", "[-999999]", "null", "[-0]", "10", "[2][0]", "30", "[-1][-1]", "31", "[0][0]", "null", "[2][2]", "null", "@[0]", "10", "([2])[1]", "31", "[2].[[0]]", "[30]")
	for _, json := range []string{"null", "false", "1", `"ab"`, "[]", "{}", `{"0":1}`} {
		wantGiven(t, json, "[0]", "null", "[-1]", "null", "[0][0]", "null")
	}
}
