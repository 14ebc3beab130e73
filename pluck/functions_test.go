package pluck_test

import (
	"slices"
	"strings"
	"testing"

	"pluck/api"
)

func TestP5Abs(t *testing.T) {
	wantGiven(t, "[-1.5,1.5,0,-1e9,1e9,-0.000001]", "map(&abs(@), @)", "[1.5,1.5,0,1000000000,1000000000,0.000001]")
}

func TestP5CeilAndFloor(t *testing.T) {
	wantGiven(t, "[0,1,-1,0.000001,-0.000001,0.5,-0.5,1.999999,-1.999999,999999999.000001,-999999999.000001,1e9,-1e9]",
		"map(&ceil(@), @)", "[0,1,-1,1,0,1,0,2,-1,1000000000,-999999999,1000000000,-1000000000]",
		"map(&floor(@), @)", "[0,1,-1,0,-1,0,-1,1,-2,999999999,-1000000000,1000000000,-1000000000]")
}

func TestP5Sum(t *testing.T) {
	wantGiven(t, "[]", "sum(@)", "0")
	wantGiven(t, "[1]", "sum(@)", "1")
	wantGiven(t, "[0.1,0.2,-0.000001]", "sum(@)", "0.299999")
	// The sum counts, not what it is on the way.
	wantGiven(t, "[1e9,1e9,1e9,-1e9,-1e9]", "sum(@)", "1000000000")
	wantGiven(t, "[-1e9,-1,1]", "sum(@)", "-1000000000")
	for _, json := range []string{"[1e9,0.000001]", "[-1e9,-0.000001]", "[1e9,1e9]", "[1e9,-1,1,1]"} {
		wantFailed(t, json, api.ErrLarge, "sum(@)", "sum(@) || `1`", "[sum(@)]", "!sum(@)")
	}
}

// So many great numbers that their sum, in millionths, is 2^64 - 16.
func TestP5SumsBeyondAWord(t *testing.T) {
	const many = "[@,@,@,@,@,@,@,@][]|[@,@,@,@,@,@,@,@,@,@][]|"
	json := "[" + strings.Repeat("1e9,", 230) + "584300921.369395]"
	wantGiven(t, json, many+"length(@)", "18480", many+"avg(@)", "998200436.889045", many+"avg(map(&@, @))", "998200436.889045")
	wantFailed(t, json, api.ErrLarge, many+"sum(@)", "sum(@)")
	json = "[" + strings.Repeat("-1e9,", 190) + "-1e9]"
	wantGiven(t, json, many+"avg(@)", "-1000000000")
	wantFailed(t, json, api.ErrLarge, many+"sum(@)", "sum(@)")
}

func TestP5Avg(t *testing.T) {
	for json, want := range map[string]string{
		"[]": "null", "[7]": "7", "[1,2]": "1.5", "[1,2,3]": "2", "[1,1,2]": "1.333333", "[1,2,2]": "1.666667", "[-1,-1,-2]": "-1.333333", "[-1,-2,-2]": "-1.666667", "[1e9,1e9]": "1000000000", "[-1e9,-1e9,-1e9]": "-1000000000", "[1e9,-1e9]": "0", "[1e9,1e9,-1e9,-1e9,4]": "0.8",
		// Half to even.
		"[0.000001,0]": "0", "[0.000002,0.000001]": "0.000002", "[0.000003,0]": "0.000002", "[0.000005,0]": "0.000002", "[0.000007,0]": "0.000004", "[-0.000001,0]": "0", "[-0.000003,0]": "-0.000002", "[-0.000005,0]": "-0.000002", "[-0.000007,0]": "-0.000004",
		"[0.000001,0,0,0]": "0", "[0.000002,0,0,0]": "0", "[0.000003,0,0,0]": "0.000001", "[0.000006,0,0,0]": "0.000002", "[0.00001,0,0,0]": "0.000002", "[-0.000002,0,0,0]": "0", "[-0.000003,0,0,0]": "-0.000001", "[-0.000006,0,0,0]": "-0.000002",
		"[0.000001,0,0]": "0", "[0.000002,0,0]": "0.000001", "[-0.000001,0,0]": "0", "[-0.000002,0,0]": "-0.000001", "[999999999.999999,1e9]": "1000000000", "[-999999999.999999,-1e9]": "-1000000000",
	} {
		wantGiven(t, json, "avg(@)", want)
	}
}

func TestP5Length(t *testing.T) {
	for json, want := range map[string]string{
		`""`: "0", `"abc"`: "3", `"é€😀"`: "3", `"e\u0301"`: "2", `"\u0000\n"`: "2", "[]": "0", "[null,[1,2]]": "2", "{}": "0", `{"a":{"b":1,"c":2},"":0}`: "2", `{"a":1,"a":2}`: "1",
	} {
		wantGiven(t, json, "length(@)", want)
	}
}

func TestP5Contains(t *testing.T) {
	wantGiven(t, `[1,"ab",null,[1],{"a":1,"b":[2]},"",true]`, "contains(@, `1.0`)", "true", "contains(@, `2`)", "false", "contains(@, 'ab')", "true", "contains(@, 'a')", "false", "contains(@, '')", "true", "contains(@, x)", "true", "contains(@, `[1]`)", "true", "contains(@, `[2]`)", "false", "contains(@, `{\"b\":[2],\"a\":1}`)", "true", "contains(@, `{\"b\":[2]}`)", "false", "contains(@, `true`)", "true", "contains(@, `false`)", "false", "contains(@, @)", "false")
	wantGiven(t, "[]", "contains(@, @)", "false", "contains(@, x)", "false", "contains(@, '')", "false")
	wantGiven(t, `"aéb1null"`, "contains(@, 'éb')", "true", "contains(@, 'eb')", "false", "contains(@, 'aéb1null')", "true", "contains(@, 'aéb1null ')", "false", "contains(@, '')", "true", "contains('', '')", "true", "contains('', @)", "false", "contains(@, `1`)", "false", "contains(@, x)", "false", "contains(@, `[]`)", "false", "contains(@, `[\"a\"]`)", "false", "contains(@, `{}`)", "false", "contains(@, `true`)", "false")
}

func TestP5StartsAndEndsWith(t *testing.T) {
	wantGiven(t, `"aéa"`, "starts_with(@, 'a')", "true", "starts_with(@, 'aé')", "true", "starts_with(@, 'aéa')", "true", "starts_with(@, 'aéaa')", "false", "starts_with(@, 'é')", "false", "starts_with(@, '')", "true", "starts_with('', @)", "false", "starts_with('', '')", "true", "starts_with(@, 'A')", "false",
		"ends_with(@, 'a')", "true", "ends_with(@, 'éa')", "true", "ends_with(@, 'aéa')", "true", "ends_with(@, 'aaéa')", "false", "ends_with(@, 'é')", "false", "ends_with(@, '')", "true", "ends_with('', @)", "false", "ends_with('', '')", "true", "ends_with(@, 'aé')", "false")
}

func TestP5Join(t *testing.T) {
	wantGiven(t, `["a","é","","b"]`, "join('-', @)", `"a-é--b"`, "join('', @)", `"aéb"`, "join('\"\n', [:2])", `"a\"\né"`, "join('x', [:1])", `"a"`, "join('x', `[]`)", `""`, "join('x', [[2]])", `""`, "join('x', [[2], [2]])", `"x"`, "join([1], @)", `"aééééb"`)
}

func TestP5KeysAndValues(t *testing.T) {
	wantGiven(t, `{"b":1,"a":null,"":[2],"é\n":{"c":3},"b":4}`, "keys(@)", `["b","a","","é\n"]`, "values(@)", `[4,null,[2],{"c":3}]`, "keys(`{}`)", "[]", "values(`{}`)", "[]", "keys({z: @, a: @})", `["z","a"]`, "values({z: 'y', a: x})", `["y",null]`)
}

func TestP5Map(t *testing.T) {
	wantGiven(t, `[{"a":1},null,{"b":2},{"a":[3,null]}]`, "map(&a, @)", "[1,null,null,[3,null]]", "map(&@, @)", `[{"a":1},null,{"b":2},{"a":[3,null]}]`, "map(&a[*], @)", "[null,null,null,[3]]", "map(&type(@), @)", `["object","null","object","object"]`, "map(&a, `[]`)", "[]", "map(&abs('x'), `[]`)", "[]", "map(&map(&@, to_array(a)), @)", "[[1],[null],[null],[3,null]]", "map(&a, @)[*]", "[1,[3,null]]", "map(&[@], @)", `[[{"a":1}],null,[{"b":2}],[{"a":[3,null]}]]`, "map(&a | @, @)[0]", "1", "map(&a || b, @)", "[1,null,2,[3,null]]", "map(&'x', @)", `["x","x","x","x"]`)
}

func TestP5MaxAndMin(t *testing.T) {
	for json, want := range map[string][2]string{
		"[]": {"null", "null"}, "[1]": {"1", "1"}, "[2,-3,1,2,-3]": {"2", "-3"}, "[-1,-0.000001,-2]": {"-0.000001", "-2"}, `["a"]`: {`"a"`, `"a"`}, `["b","B","ab","","b"]`: {`"b"`, `""`}, `["a","aa"]`: {`"aa"`, `"a"`},
		// Code point by code point: neither by bytes of another encoding nor by size.
		`["\uffff","😀","z"]`: {`"😀"`, `"z"`}, `["10","9"]`: {`"9"`, `"10"`}, `["é","z"]`: {`"é"`, `"z"`},
	} {
		wantGiven(t, json, "max(@)", want[0], "min(@)", want[1], "max_by(@, &@)", want[0], "min_by(@, &@)", want[1])
	}
	const json = `[{"k":1,"n":"b"},{"k":3,"n":"c"},{"k":3,"n":"a"},{"k":1,"n":"c"}]`
	wantGiven(t, json, "max_by(@, &k)", `{"k":3,"n":"c"}`, "min_by(@, &k)", `{"k":1,"n":"b"}`, "max_by(@, &n)", `{"k":3,"n":"c"}`, "min_by(@, &n)", `{"k":3,"n":"a"}`, "max_by(@, &abs(k)).n", `"c"`, "max_by(@, &to_string(k)).n", `"c"`, "min_by(@, &'x').n", `"b"`, "max_by(@, &'x').n", `"b"`, "max_by(`[]`, &abs('x'))", "null", "min_by(`[]`, &abs('x'))", "null", "max_by([:1], &k).k", "1", "max_by(`[null,null]`, &`1`)", "null", "min_by(`[[1,2],[3]]`, &length(@))", "[3]")
}

func TestP5Sort(t *testing.T) {
	for json, want := range map[string]string{
		"[]": "[]", "[1]": "[1]", "[2,-3,1,2,-3,0.5]": "[-3,-3,0.5,1,2,2]", `["b","","B","ab","é","a","b"]`: `["","B","a","ab","b","b","é"]`, `["\uffff","😀","z"]`: "[\"z\",\"\uffff\",\"😀\"]", `["10","9","1"]`: `["1","10","9"]`, `["a\u0000","a"]`: `["a","a\u0000"]`,
	} {
		wantGiven(t, json, "sort(@)", want, "sort_by(@, &@)", want, "[sort(@), @] | [1] == `"+json+"`", "true")
	}
	const json = `[{"k":2,"n":"b"},{"k":1,"n":"c"},{"k":2,"n":"a"},{"k":1,"n":"b"},{"k":2,"n":"c"}]`
	wantGiven(t, json, "sort_by(@, &k)[*].n", `["c","b","b","a","c"]`, "sort_by(@, &n)[*].k", "[2,2,1,1,2]", "sort_by(@, &'')[*].n", `["b","c","a","b","c"]`, "sort_by(@, &to_number(k))[0].n", `"c"`, "sort_by(@, &k | abs(@))[0].n", `"c"`, "sort_by(`[]`, &abs('x'))", "[]", "sort_by(`[null,[]]`, &type(@))", "[[],null]", "sort_by(@, &k) | [0].k", "1", "sort_by(sort_by(@, &n), &k)[*].n", `["b","c","a","b","c"]`, "[sort_by(@, &k), @][1][0].n", `"b"`)
	// Many things stay as they stood.
	var things, rising []string
	for i := range 90 {
		things = append(things, `["`+strings.Repeat("x", i%3)+`"]`)
	}
	rising = slices.Clone(things)
	slices.SortFunc(rising, func(a, b string) int { return len(a) - len(b) })
	wantGiven(t, "["+strings.Join(things, ",")+"]", "sort_by(@, &[0])", "["+strings.Join(rising, ",")+"]")
	wantGiven(t, "["+strings.Repeat(`{"a":1,"b":2},{"a":1,"b":3},`, 20)+`{"a":0}]`, "sort_by(@, &a)[1:].b | join('', map(&to_string(@), @))", `"`+strings.Repeat("23", 20)+`"`)
}

func TestP5Merge(t *testing.T) {
	const json = `{"p":{"a":1,"b":2},"q":{"c":3,"a":4},"e":{},"n":{"b":null}}`
	wantGiven(t, json, "merge(p, q)", `{"a":4,"b":2,"c":3}`, "merge(q, p)", `{"c":3,"a":1,"b":2}`, "merge(p)", `{"a":1,"b":2}`, "merge(e)", "{}", "merge(e, e, e)", "{}", "merge(e, p, e)", `{"a":1,"b":2}`, "merge(p, n, q)", `{"a":4,"b":null,"c":3}`, "merge(p, p)", `{"a":1,"b":2}`, "merge(p, q, p)", `{"a":1,"b":2,"c":3}`, "merge(p, {b: p, \"\": q})", `{"a":1,"b":{"a":1,"b":2},"":{"c":3,"a":4}}`, "[merge(p, q), p, q][1:]", `[{"a":1,"b":2},{"c":3,"a":4}]`)
}

func TestP5NotNull(t *testing.T) {
	wantGiven(t, `{"a":null,"f":false,"s":"","l":[]}`, "not_null(a)", "null", "not_null(a, x, a)", "null", "not_null(a, f, s)", "false", "not_null(x, s)", `""`, "not_null(l, f)", "[]", "not_null(@.a, @).f", "false")
	wantFailed(t, "null", api.ErrType, "not_null('x', abs('x'))")
}

func TestP5Reverse(t *testing.T) {
	for json, want := range map[string]string{
		"[]": "[]", "[1]": "[1]", "[1,null,[2,3]]": "[[2,3],null,1]", `""`: `""`, `"a"`: `"a"`, `"aé€😀\n"`: `"\n😀€éa"`, `"e\u0301x"`: "\"x\u0301e\"",
	} {
		wantGiven(t, json, "reverse(@)", want, "reverse(reverse(@)) == @", "true", "[reverse(@), @] | [1] == `"+strings.ReplaceAll(json, "`", "")+"`", "true")
	}
}

func TestP5Type(t *testing.T) {
	for json, want := range map[string]string{
		"null": "null", "true": "boolean", "false": "boolean", "0": "number", "-1.5": "number", `""`: "string", `"null"`: "string", "[]": "array", "[1]": "array", "{}": "object", `{"a":1}`: "object",
	} {
		wantGiven(t, json, "type(@)", `"`+want+`"`)
	}
}

func TestP5ToArray(t *testing.T) {
	for json, want := range map[string]string{
		"null": "[null]", "true": "[true]", "1": "[1]", `"a"`: `["a"]`, "{}": "[{}]", `{"a":[1]}`: `[{"a":[1]}]`, "[]": "[]", "[null]": "[null]", "[[1]]": "[[1]]",
	} {
		wantGiven(t, json, "to_array(@)", want)
	}
}

func TestP5ToNumber(t *testing.T) {
	for json, want := range map[string]string{
		"1.5": "1.5", `"1.5"`: "1.5", `"1.50"`: "1.5", `"-0"`: "0", `"0"`: "0", `"1e3"`: "1000", `"-1E-6"`: "-0.000001", `"1e+9"`: "1000000000", `"\u0031"`: "1", `"0.0000010"`: "0.000001", `"0e999999999999999999999"`: "0",
		`""`: "null", `" 1"`: "null", `"1 "`: "null", `"1\n"`: "null", `"01"`: "null", `"+1"`: "null", `".5"`: "null", `"5."`: "null", `"1e"`: "null", `"-"`: "null", `"--1"`: "null", `"1,0"`: "null", `"0x1"`: "null", `"x"`: "null", `"null"`: "null", `"[1]"`: "null", `"\"1\""`: "null", `"NaN"`: "null", `"Infinity"`: "null", `"1\u0000"`: "null", `"1_000"`: "null", `"١"`: "null",
		`"1e10"`: "null", `"1000000000.000001"`: "null", `"-1000000001"`: "null", `"1e-7"`: "null", `"1.0000001"`: "null", `"1e999999999999999999999"`: "null", `"1e-999999999999999999999"`: "null",
		"null": "null", "true": "null", "false": "null", "[]": "null", "[1]": "null", "{}": "null",
	} {
		wantGiven(t, json, "to_number(@)", want)
	}
}

func TestP5ToString(t *testing.T) {
	for json, want := range map[string]string{
		`"a\n"`: `"a\n"`, `""`: `""`, "null": `"null"`, "true": `"true"`, "-1.50": `"-1.5"`, "[ 1 , \"a\" ]": `"[1,\"a\"]"`, "[]": `"[]"`, "{}": `"{}"`, `{"a" : {"b\n":null}, "é":[1e2]}`: `"{\"a\":{\"b\\n\":null},\"é\":[100]}"`,
	} {
		wantGiven(t, json, "to_string(@)", want, "to_string(to_string(@))", want)
	}
}
