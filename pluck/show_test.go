package pluck_test

import (
	"strings"
	"testing"

	"pluck/api"
	"pluck/pluck"
)

func wantShown(t *testing.T, expr, want string) {
	t.Helper()
	if out, at, e := pluck.Show(expr); out != want || at != 0 || e != api.OK {
		t.Errorf("Show(%q) = %q, %d, %d, want %q", expr, out, at, e, want)
	}
}

func wantFault(t *testing.T, expr string, place int, want api.Errno) {
	t.Helper()
	if out, at, e := pluck.Show(expr); out != "" || at != place || e != want {
		t.Errorf("Show of %d bytes, %.60q, = %q, %d, %d, want error %d at %d", len(expr), expr, out, at, e, want, place)
	}
}

func wantNone(t *testing.T, expr string, place int) {
	t.Helper()
	wantFault(t, expr, place, api.ErrSyntax)
}

func TestP4Example(t *testing.T) {
	wantShown(t, "a.b[0] | c", `(| (. ."a" ."b" [0]) ."c")`)
	wantNone(t, "a..b", 2)
	wantFault(t, "f(a)", 0, api.ErrName)
}

func TestP4Length(t *testing.T) {
	most := strings.Repeat("a", 119)
	wantShown(t, "b"+most, `."b`+most+`"`)
	wantShown(t, "a"+strings.Repeat(" ", 119), `."a"`)
	wantFault(t, "bb"+most, 0, api.ErrLong)
	wantFault(t, "a"+strings.Repeat(" ", 120), 0, api.ErrLong)
	wantNone(t, strings.Repeat(" ", 120), 120)
	wantNone(t, most+".", 120)
	wantNone(t, most+"#", 119)
	// The bytes count, not the code points.
	wantFault(t, "'"+strings.Repeat("é", 59)+"a'", 0, api.ErrLong)
	wantShown(t, "'"+strings.Repeat("é", 59)+"'", `"`+strings.Repeat("é", 59)+`"`)
}

func TestP4Words(t *testing.T) {
	for expr, want := range map[string]string{
		"z": `."z"`, "A": `."A"`, "Z": `."Z"`, "_": `."_"`, "__": `."__"`, "a0_9Zz": `."a0_9Zz"`, "\t\n\r a\r\n\t ": `."a"`, "false": `."false"`,
		// The name of a function without a bracket behind it is a name.
		"length": `."length"`, "a.length": `(. ."a" ."length")`, "{length: sort}": `{"length" ."sort"}`,
	} {
		wantShown(t, expr, want)
	}
	for expr, place := range map[string]int{
		"a-b": 1, "a$": 1, "$a": 0, "a\x00": 1, "\x00": 0, "\fa": 0, "a\v": 1, "\u00a0a": 0, "\ufeffa": 0, "aé": 1, "a b": 2, "a\x7f": 1, "[a": 2, "{a": 2, "a~": 1, "a^b": 1, "a/b": 1, "a%b": 1, "a+b": 1, "a;": 1, "\\": 0,
	} {
		wantNone(t, expr, place)
	}
}

func TestP4Quoted(t *testing.T) {
	for expr, want := range map[string]string{
		`""`: `.""`, `"a\"b"`: `."a\"b"`, `"\u00e9\u000a\/"`: `."é\n/"`, `"\ud83d\ude00"`: `."😀"`, `"'"`: `."'"`, "\"`\"": ".\"`\"", `a."b c"."d"`: `(. ."a" ."b c" ."d")`, `{"a b":"c d"}`: `{"a b" ."c d"}`, "\"\x7f\"": ".\"\x7f\"",
	} {
		wantShown(t, expr, want)
	}
	for expr, place := range map[string]int{
		`"`: 0, `"\"`: 0, `"\x"`: 0, `"\u12"`: 0, `"\udc00"`: 0, `"\ud800\u0041"`: 0, "\"\x00\"": 0, "\"\x1f\"": 0, "\"\xff\"": 0, "\"\xed\xa0\x80\"": 0, "\"a\xc3\"": 0, `a."`: 2, `a | "b`: 4, `"a""b"`: 3, `"a"b`: 3, `a"b"`: 1, `{"a:b}`: 1, `{"a"}`: 4,
	} {
		wantNone(t, expr, place)
	}
}

func TestP4Raw(t *testing.T) {
	for expr, want := range map[string]string{
		"''": `""`, `'\''`: `"'"`, `'\\'`: `"\\"`, `'\\\''`: `"\\'"`, `'"'`: `"\""`, "'\t\x00\x1f\x7f'": "\"\\t\\u0000\\u001f\x7f\"", "'`'": "\"`\"", "'é😀\u2028'": "\"é😀\u2028\"", "'a b'": `"a b"`, "' a | '": `" a | "`, "'a'[0]": `(. "a" [0])`, "'a' == 'b'": `(== "a" "b")`,
	} {
		wantShown(t, expr, want)
	}
	for expr, place := range map[string]int{
		"'": 0, `'\`: 0, `'\'`: 0, `'a\'`: 0, `'\\\'`: 0, `'\"'`: 0, `'\u0041'`: 0, `'\ '`: 0, "'\x80'": 0, "'a\xc3'": 0, "'\xc3\\''": 0, "'\xed\xa0\x80'": 0, "'\xf4\x90\x80\x80'": 0, "'a''b'": 3, "'a'b": 3, "a'b'": 1, "[a, 'b]": 4, "{'a': b}": 1, "a.'b'": 2,
	} {
		wantNone(t, expr, place)
	}
}

func TestP4Literals(t *testing.T) {
	for expr, want := range map[string]string{
		"`null`": "`null`", "` true\n`": "`true`", "`-0.50e1`": "`-5`", "`\"\\u0060\"`": "`\"`\"`", "`\"'\"`": "`\"'\"`", "`[ ]`": "`[]`", "`{ \"b\" : 1 , \"a\" : [ { } ] , \"b\" : \"\\/\" }`": "`{\"b\":\"/\",\"a\":[{}]}`",
		"`1` == `2`": "(== `1` `2`)", "`1`.a": "(. `1` .\"a\")", "`1000000000`": "`1000000000`", "`1e-6`": "`0.000001`",
		// Its brackets are counted by themselves.
		"`[[[[[[[[[[[[1]]]]]]]]]]]]`": "`[[[[[[[[[[[[1]]]]]]]]]]]]`",
		strings.Repeat("(", 12) + "`[[[[[[[[[[[[]]]]]]]]]]]]`" + strings.Repeat(")", 12): "`[[[[[[[[[[[[]]]]]]]]]]]]`",
	} {
		wantShown(t, expr, want)
	}
	for expr, place := range map[string]int{
		"`": 0, "` `": 0, "`a`": 0, "`'a'`": 0, "`[1,]`": 0, "`1": 0, "`\"a`": 0, "`\"`\"`": 0, "`1``": 3, "`1``2`": 3, "`\xff`": 0, "`\"\xff\"`": 0, "`{\"a\":[[[[[[[[[[[[]]]]]]]]]]]]}`": 0, "`1e10": 0, "`[1e10,]`": 0, "`1e`": 0, "a.`1`": 2, "a`1`": 1, "[`1]": 1, "{`1`: a}": 1,
	} {
		wantNone(t, expr, place)
	}
}

func TestP4Whole(t *testing.T) {
	for expr, want := range map[string]string{
		"[7]": "[7]", "[10]": "[10]", "[-1]": "[-1]", "[-999999]": "[-999999]", "[100000]": "[100000]", "[-0:-0:-1]": "[0:0:-1]", "[\n-1\t]": "[-1]", "[999999:-999999:999999]": "[999999:-999999:999999]",
	} {
		wantShown(t, expr, want)
	}
	for expr, place := range map[string]int{
		"[1000000]": 1, "[-1000000]": 1, "[-00]": 1, "[-01]": 1, "[000000]": 1, "[--1]": 1, "[- 1]": 1, "[+1]": 1, "[1e2]": 2, "[1_0]": 2, "[1-1]": 2, "[1 -1]": 3, "[.5]": 1, "[1:01]": 3, "[1:-]": 3, "[::1000000]": 3, "[::00]": 3, "-1": 0, "0": 0, "a == 1": 5, "abs(-1)": 4, "{a: 1}": 4, "[a, 1]": 4, "[*, 1]": 4, "a.0": 2, "[?1]": 2, "a 1": 2, "'a'1": 3,
	} {
		wantNone(t, expr, place)
	}
}

// Of two tokens that begin at one place the longer one is meant.
func TestP4LongerTokens(t *testing.T) {
	for expr, want := range map[string]string{
		"a|b||c": `(| ."a" (|| ."b" ."c"))`, "a<b": `(< ."a" ."b")`, "a<=b": `(<= ."a" ."b")`, "a>=b": `(>= ."a" ."b")`, "a!=b": `(!= ."a" ."b")`, "a&&!b": `(&& ."a" (! ."b"))`, "a||!b": `(|| ."a" (! ."b"))`, "a|!b": `(| ."a" (! ."b"))`, "! !a": `(! (! ."a"))`, "map(&!a,@)": `(map (& (! ."a")) @)`,
	} {
		wantShown(t, expr, want)
	}
	for expr, place := range map[string]int{
		"a| |b": 3, "a|||b": 3, "a||||b": 3, "a& &b": 1, "a&&&b": 3, "a&&&&b": 3, "a===b": 3, "a= =b": 1, "a! =b": 1, "a!==b": 3, "a<==b": 3, "a< =b": 3, "a>>b": 2, "a=>b": 1, "a<>b": 2, "a=<b": 1, "!=a": 0, "==a": 0, "|a": 0, "||a": 0, "&&a": 0, "map(&&a, @)": 4, "map(& &a, @)": 6, "a !! b": 2, "=": 0,
	} {
		wantNone(t, expr, place)
	}
}

func TestP4Signs(t *testing.T) {
	for expr, want := range map[string]string{
		"a|b|c|d": `(| (| (| ."a" ."b") ."c") ."d")`, "a || b || c || d": `(|| (|| (|| ."a" ."b") ."c") ."d")`, "a && b && c && d": `(&& (&& (&& ."a" ."b") ."c") ."d")`,
		"a | (b | c)": `(| ."a" (| ."b" ."c"))`, "a || (b || c)": `(|| ."a" (|| ."b" ."c"))`, "a && (b && c)": `(&& ."a" (&& ."b" ."c"))`,
		"a && b | c || d": `(| (&& ."a" ."b") (|| ."c" ."d"))`, "a || b && c || d": `(|| (|| ."a" (&& ."b" ."c")) ."d")`, "a == b || c == d": `(|| (== ."a" ."b") (== ."c" ."d"))`,
		"a < b && c > d | e": `(| (&& (< ."a" ."b") (> ."c" ."d")) ."e")`, "a.b == c[0]": `(== (. ."a" ."b") (. ."c" [0]))`, "a == (b == c)": `(== ."a" (== ."b" ."c"))`, "a == (!b)": `(== ."a" (! ."b"))`,
		"!a || b": `(|| (! ."a") ."b")`, "!a | b": `(| (! ."a") ."b")`, "!(a && b)": `(! (&& ."a" ."b"))`, "(!a) == b": `(== (! ."a") ."b")`, "!a != b": `(! (!= ."a" ."b"))`, "!@": "(! @)", "!*": "(! *)", "!'a'": `(! "a")`, "![a]": `(! [."a"])`, "![0]": "(! [0])", "(!a).b": `(. (! ."a") ."b")`,
	} {
		wantShown(t, expr, want)
	}
	for expr, place := range map[string]int{
		"a |": 3, "a | ": 4, "a || && b": 5, "a && || b": 5, "a | | b": 4, "a !b": 2, "a && b == c == d": 12, "a == b < c": 7, "a == b != c": 7, "a < b <= c": 6, "(a == b == c)": 8, "a ==": 4, "== a": 0, "a == | b": 5, "a == == b": 5, "a.b == !c": 7, "!!": 2, "!|": 1, "!)": 1, "(!)": 2, "a | !": 5, "@a": 1, "a@": 1, "@ @": 2, "@'a'": 1, "? a": 0, "a ?": 2, ": a": 0, ", a": 0, "a, b": 1, "&": 0, "a | &b": 4,
	} {
		wantNone(t, expr, place)
	}
}

func TestP4Chains(t *testing.T) {
	for expr, want := range map[string]string{
		"a.b.c": `(. ."a" ."b" ."c")`, "a\n.\tb": `(. ."a" ."b")`, "a.*.b": `(. ."a" * ."b")`, "*.*": "(. * *)", "@.*": "(. @ *)", "@[0]": "(. @ [0])", "*[0]": "(. * [0])", "a [0] [1]": `(. ."a" [0] [1])`, "a[0].b[1]": `(. ."a" [0] ."b" [1])`, "a.[b]": `(. ."a" [."b"])`, "a.[b][0]": `(. ."a" [."b"] [0])`, "a.{b:c}.d": `(. ."a" {"b" ."c"} ."d")`,
		"[a].b": `(. [."a"] ."b")`, "[0].a": `(. [0] ."a")`, "[0][0]": "(. [0] [0])", "[*].a": `(. [*] ."a")`, "[].a": `(. [] ."a")`, "[][]": "(. [] [])", "[?a].b": `(. [? ."a"] ."b")`, "[:].a": `(. [::1] ."a")`, "'a'.b": `(. "a" ."b")`, "a.type(@).b": `(. ."a" (type @) ."b")`, "type(@).type(@)": "(. (type @) (type @))",
		"a.[*]": `(. ."a" [*])`, "a.[*, b]": `(. ."a" [* ."b"])`, "a.[[0]]": `(. ."a" [[0]])`, "a.[[*]]": `(. ."a" [[*]])`, "a.[*][*]": `(. ."a" [*] [*])`, "a.[*[0]]": `(. ."a" [(. * [0])])`, "a.[@]": `(. ."a" [@])`,
	} {
		wantShown(t, expr, want)
	}
	for expr, place := range map[string]int{
		".": 0, "a. ": 3, "a.b.": 4, "a...b": 2, "a.|b": 2, "a.]": 2, "a.)": 2, "a.,": 2, "a.:": 2, "a.?": 2, "a.==b": 2, "a.[": 3, "a.[1:2]": 3, "a.[-1]": 3, "a.[*": 4, "a.[*b]": 4, "a.[b": 4, "a.[b,": 5, "a.[,b]": 3, "a.{": 3, "a.{}": 3, "a.b c": 4, "a.\"b\" \"c\"": 6, "@.@": 2, "*.@": 2, "* *": 2, "*a": 1, "a.(b)": 2, "a (b) c": 6,
	} {
		wantNone(t, expr, place)
	}
}

func TestP4Brackets(t *testing.T) {
	for expr, want := range map[string]string{
		"[0:]": "[0::1]", "[:0]": "[:0:1]", "[::1]": "[::1]", "[:1:]": "[:1:1]", "[1:2:]": "[1:2:1]", "[-1:-2:-3]": "[-1:-2:-3]", "[:-1]": "[:-1:1]", "a[:]": `(. ."a" [::1])`, "[ : : ]": "[::1]", "[ * ]": "[*]", "[ ]": "[]", "[ ? a ]": `[? ."a"]`,
		"[?a | b]": `[? (| ."a" ."b")]`, "[?!a]": `[? (! ."a")]`, "[?@ > `1`]": "[? (> @ `1`)]", "[?*]": "[? *]", "[?[0]]": "[? [0]]", "[?[a]]": `[? [."a"]]`, "[?a][?b]": `(. [? ."a"] [? ."b"])`, "[?{a:b}]": `[? {"a" ."b"}]`, "[?(a)]": `[? ."a"]`, "[?(*)]": "[? (. *)]",
		"a[*]": `(. ."a" [*])`, "a[]": `(. ."a" [])`, "a[?b]": `(. ."a" [? ."b"])`, "a[1:]": `(. ."a" [1::1])`, "a[-1]": `(. ."a" [-1])`,
	} {
		wantShown(t, expr, want)
	}
	for expr, place := range map[string]int{
		"[0:": 3, "[0:1": 4, "[0:1:": 5, "[0:1:2": 6, "[:": 2, "[::": 3, "[::-0]": 3, "[:::1]": 3, "[0:1 2]": 5, "[0:,]": 3, "[0,]": 2, "[0.a]": 2, "[0|a]": 2, "[0[0]]": 2, "[0:a]": 3, "[a:b]": 2, "[a:1]": 2, "[1:*]": 3, "[*:1]": 2, "[?": 2, "[?]": 2, "[?a": 3, "[?a,b]": 3, "[?a]]": 4, "[?a)": 3, "[? ?a]": 3, "[??a]": 2, "[?0]": 2, "[?:]": 2, "[?&a]": 2, "[0)": 2, "[)": 1, "[0}": 2, "[.a]": 1, "[|]": 1, "[&a]": 1, "[a|]": 3,
		"a[": 2, "a[*": 3, "a[*,b]": 3, "a[*|b]": 3, "a[*[0]]": 3, "a[(b)]": 2, "a[[0]]": 2, "a[{b:c}]": 2, "a[\"b\"]": 2, "a[`1`]": 2, "a[!b]": 2, "a[,]": 2, "a[.]": 2, "a[1,2]": 3, "[*][a]": 4, "[a][b]": 4, "[]a": 2, "[0]a": 3, "[][": 3, "a]": 1, "[]]": 2, "[]0": 2,
	} {
		wantNone(t, expr, place)
	}
}

func TestP4Lists(t *testing.T) {
	for expr, want := range map[string]string{
		"[a,b,c]": `[."a" ."b" ."c"]`, "[\"a\"]": `[."a"]`, "['a']": `["a"]`, "[`1`, `2`]": "[`1` `2`]", "[a | b]": `[(| ."a" ."b")]`, "[!a]": `[(! ."a")]`, "[[a]]": `[[."a"]]`, "[[[0]]]": "[[[0]]]", "[[]]": "[[]]", "[[*]]": "[[*]]", "[[?a], [:]]": `[[? ."a"] [::1]]`, "[(a), (*)]": `[."a" (. *)]`, "[{a: b}]": `[{"a" ."b"}]`,
		"[*,*]": "[* *]", "[*==a]": `[(== * ."a")]`, "[*&&a]": `[(&& * ."a")]`, "[*||a]": `[(|| * ."a")]`, "[*[0]]": "[(. * [0])]", "[*[*]]": "[(. * [*])]", "[*.*]": "[(. * *)]", "[a, *]": `[."a" *]`, "[(*)]": "[(. *)]", "[type(@)]": "[(type @)]",
	} {
		wantShown(t, expr, want)
	}
	for expr, place := range map[string]int{
		"[a b]": 3, "[a,,b]": 3, "[a,b": 4, "[a;b]": 2, "[*a]": 2, "[*'a']": 2, "[*(a)]": 2, "[*!a]": 2, "[*!=]": 4, "[*,": 3, "[*,]": 3, "[*.": 3, "[*.]": 3, "[* *]": 3, "[*}": 2, "[a)": 2, "[a]]": 3, "[a][": 4, "[[": 2, "[[a]": 4, "[a, &b]": 4, "[a:]": 2, "[a?]": 2,
	} {
		wantNone(t, expr, place)
	}
}

func TestP4Objects(t *testing.T) {
	for expr, want := range map[string]string{
		"{a:b}": `{"a" ."b"}`, "{ \"a\\n\" : @ , b : * }": `{"a\n" @ "b" *}`, "{a: b | c}": `{"a" (| ."b" ."c")}`, "{a: {b: c}}": `{"a" {"b" ."c"}}`, "{a: [0], b: [c]}": `{"a" [0] "b" [."c"]}`, "{a: (*), b: !c}": `{"a" (. *) "b" (! ."c")}`, "{a: b}[0]": `(. {"a" ."b"} [0])`, "{a: type(@)}": `{"a" (type @)}`,
		// A key that stands twice is understood twice.
		"{a: b, a: c}": `{"a" ."b" "a" ."c"}`, "{a: b, \"\\u0061\": b}": `{"a" ."b" "a" ."b"}`, "{\"\": a}": `{"" ."a"}`,
	} {
		wantShown(t, expr, want)
	}
	for expr, place := range map[string]int{
		"{ ": 2, "{,}": 1, "{a,": 2, "{a:b,,c:d}": 5, "{a:b;": 4, "{a:b]": 4, "{a:b)": 4, "{a:b c:d}": 5, "{a:b:c}": 4, "{a.b:c}": 2, "{a[0]:c}": 2, "{(a):b}": 1, "{type(@):b}": 5, "{type (@):b}": 6, "{[a]:b}": 1, "{a:b}}": 5, "{a:b}c": 5, "{a:b}{": 5, "{&a:b}": 1, "{a:&b}": 3, "{!a:b}": 1, "{:a}": 1, "{a=b}": 2, "{a:,b:c}": 3, "{a:b,c}": 6, "{a:b,:c}": 5,
	} {
		wantNone(t, expr, place)
	}
}

// What stands in brackets is a thing by itself.
func TestP4RoundBrackets(t *testing.T) {
	for expr, want := range map[string]string{
		"( a )": `."a"`, "(((a)))": `."a"`, "(@)": "@", "('a')": `"a"`, "(`1`)": "`1`", "({a:b})": `{"a" ."b"}`, "([a])": `[."a"]`, "([*, a])": `[* ."a"]`, "(type(@))": "(type @)", "(!a)": `(! ."a")`, "(a | b)": `(| ."a" ."b")`, "(a.b)": `(. ."a" ."b")`,
		"(*)": "(. *)", "((*))": "(. *)", "( ( ( [*] ) ) )": "(. [*])", "([])": "(. [])", "([?a])": `(. [? ."a"])`, "([:])": "(. [::1])", "([-1])": "(. [-1])", "(*)[0]": "(. (. *) [0])", "([*]).a": `(. (. [*]) ."a")`, "([*])[*]": "(. (. [*]) [*])", "(*).*": "(. (. *) *)",
		"(a[*]).b": `(. (. ."a" [*]) ."b")`, "(a[*].b)[0]": `(. (. ."a" [*] ."b") [0])`, "(a).b": `(. ."a" ."b")`, "((a.b).c).d": `(. (. (. ."a" ."b") ."c") ."d")`, "((*).a).b": `(. (. (. *) ."a") ."b")`, "(a || b).c": `(. (|| ."a" ."b") ."c")`, "(*) | (*)": "(| (. *) (. *))", "!(*)": "(! (. *))", "(*) == *": "(== (. *) *)", "type((*))": "(type (. *))", "map(&(*), @)": "(map (& (. *)) @)", "(* | a)": `(| * ."a")`, "(*.a)": `(. * ."a")`, "(a.[*])": `(. ."a" [*])`,
	} {
		wantShown(t, expr, want)
	}
	for expr, place := range map[string]int{
		"( )": 2, "(a": 2, "((a)": 4, "(a]": 2, "(a}": 2, "(a, b)": 2, "(a) b": 4, "(a)b": 3, "(a)(b)": 3, "(a)'b'": 3, "a | (": 5, "a | ()": 5, ")(": 0, "(a | )": 5, "(:)": 1, "(0)": 1, "@(a)": 1, "*(a)": 1, "'a'(b)": 3, "[0](a)": 3, "(a)!": 3,
	} {
		wantNone(t, expr, place)
	}
}

func TestP4Depth(t *testing.T) {
	eleven := strings.Repeat("(", 11)
	closed := strings.Repeat(")", 11)
	for inside, want := range map[string]string{
		"(a)": `."a"`, "!a": `(! ."a")`, "[a]": `[."a"]`, "[0]": "(. [0])", "{a:b}": `{"a" ."b"}`, "type(a)": `(type ."a")`, "a[*]": `(. ."a" [*])`, "a[]": `(. ."a" [])`, "a.[b]": `(. ."a" [."b"])`, "a.{b:c}": `(. ."a" {"b" ."c"})`, "a[?b]": `(. ."a" [? ."b"])`,
		// What has been closed does not count, and a sign behind it is no deeper.
		"(a) | (b)": `(| ."a" ."b")`, "!a | !b": `(| (! ."a") (! ."b"))`, "!a && [b]": `(&& (! ."a") [."b"])`, "a[0][1][2]": `(. ."a" [0] [1] [2])`, "(a)[0]": `(. ."a" [0])`, "type(a)[0]": `(. (type ."a") [0])`,
	} {
		wantShown(t, eleven+inside+closed, want)
	}
	// What is behind a `!` up to the end of its comparison stands in it.
	for inside, place := range map[string]int{
		"((a))": 1, "(!a)": 1, "!(a)": 1, "!!a": 1, "!a[0]": 2, "!a == [b]": 6, "!a == b[0]": 7, "!type(a)": 5, "!{a:b}": 1, "!a.{b:c}": 3, "![0]": 1, "[[a]]": 1, "[a[0]]": 2, "[?[0]]": 2, "{a:{b:c}}": 3, "{a:!b}": 3, "type((a))": 5, "type(a[0])": 6, "type(type(a))": 9, "a[?b[0]]": 4, "a[?!b]": 3, "map(&!a,b)": 5, "(a | b | !c)": 9,
	} {
		wantNone(t, eleven+inside+closed, 11+place)
	}
	for _, sign := range []string{"(", "[", "!", "[?", "{a:", "type(", "@[?", "@.[", "@.{a:", "map(&"} {
		most := strings.Repeat(sign, 12)
		if len(most)+len(sign) > 120 {
			t.Fatalf("%q is too long", sign)
		}
		wantNone(t, most, len(most))
		// The sign that is too deep begins behind what stands ahead of it.
		wantNone(t, most+sign, len(most)+strings.IndexAny(sign, "([{!"))
	}
	wantShown(t, strings.Repeat("[", 12)+"a"+strings.Repeat("]", 12), strings.Repeat("[", 12)+`."a"`+strings.Repeat("]", 12))
	wantShown(t, strings.Repeat("!", 12)+"a", strings.Repeat("(! ", 12)+`."a"`+strings.Repeat(")", 12))
	wantShown(t, "a"+strings.Repeat("[0]", 39), `(. ."a"`+strings.Repeat(" [0]", 39)+")")
	wantShown(t, strings.Repeat("!a|", 39)+"!a", strings.Repeat("(| ", 39)+`(! ."a")`+strings.Repeat(` (! ."a"))`, 39))
}

// taken has for each function what it takes: a `v` for a value, a `&` for an
// expression, and `..` where there may be more.
func taken() map[string]string {
	return map[string]string{
		"abs": "v", "avg": "v", "ceil": "v", "contains": "vv", "ends_with": "vv", "floor": "v", "join": "vv", "keys": "v", "length": "v", "map": "&v", "max": "v", "max_by": "v&", "merge": "v..", "min": "v", "min_by": "v&", "not_null": "v..", "reverse": "v", "sort": "v", "sort_by": "v&", "starts_with": "vv", "sum": "v", "to_array": "v", "to_number": "v", "to_string": "v", "type": "v", "values": "v",
	}
}

// allSorts are all rows of at most four args.
func allSorts() []string {
	all := []string{""}
	for at := 0; len(all[at]) < 4; at++ {
		all = append(all, all[at]+"v", all[at]+"&")
	}
	return all
}

func called(word, sorts string) (expr, shown string) {
	var args []string
	shown = "(" + word
	for _, sort := range sorts {
		if sort == '&' {
			args = append(args, "&a")
			shown += ` (& ."a")`
		} else {
			args = append(args, "a")
			shown += ` ."a"`
		}
	}
	return word + "(" + strings.Join(args, ", ") + ")", shown + ")"
}

func TestP4Calls(t *testing.T) {
	for word, takes := range taken() {
		for _, sorts := range allSorts() {
			expr, shown := called(word, sorts)
			fits := sorts == takes
			if takes == "v.." {
				fits = sorts != "" && !strings.Contains(sorts, "&")
			}
			if fits {
				wantShown(t, expr, shown)
				wantShown(t, "a."+expr, `(. ."a" `+shown+")")
			} else {
				wantFault(t, expr, 0, api.ErrArity)
				wantFault(t, " @ | a."+expr, 7, api.ErrArity)
			}
		}
		for _, other := range []string{strings.ToUpper(word), word + "_", "_" + word, word + "0", word[1:], word[:len(word)-1]} {
			if taken()[other] == "" {
				wantFault(t, other+"(@)", 0, api.ErrName)
			}
		}
	}
	for expr, want := range map[string]string{
		"type (@)": "(type @)", "type\n(\t@ )": "(type @)", "merge(@" + strings.Repeat(",@", 50) + ")": "(merge @" + strings.Repeat(" @", 50) + ")", "type(a | b)": `(type (| ."a" ."b"))`, "type(*)": "(type *)", "type([0])": "(type [0])", "type([a])": `(type [."a"])`, "type((a))": `(type ."a")`, "type(!a)": `(type (! ."a"))`, "type(type)": `(type ."type")`, "map(&(a), b)": `(map (& ."a") ."b")`, "map(& a || b, c)": `(map (& (|| ."a" ."b")) ."c")`, "map(&map(&a, b), c)": `(map (& (map (& ."a") ."b")) ."c")`, "sort_by(a, &b).c": `(. (sort_by ."a" (& ."b")) ."c")`,
	} {
		wantShown(t, expr, want)
	}
	for expr, place := range map[string]int{
		"type(": 5, "type( ": 6, "type(a": 6, "type(a,": 7, "type(a,)": 7, "type(,a)": 5, "type(,)": 5, "type(a b)": 7, "type(a]": 6, "type(a}": 6, "type(a;": 6, "type(0)": 5, "type(a:b)": 6, "type(&)": 6, "type(&&a)": 5, "type(& &a)": 7, "type(a, &)": 9, "type(a & b)": 7, "type((&a))": 6, "type(@)a": 7, "type(@)(@)": 7, "type(@)'a'": 7, "a.type(": 7, "\"type\"(@)": 6, "a.\"type\"(@)": 8,
	} {
		wantNone(t, expr, place)
	}
}

func TestP4FirstWrongCallIsTold(t *testing.T) {
	for _, c := range []struct {
		expr  string
		place int
		errno api.Errno
	}{
		{"f(type())", 0, api.ErrName}, {"type(f(), g())", 0, api.ErrArity}, {"type(f(type()))", 5, api.ErrName}, {"type(type(f()))", 10, api.ErrName}, {"type(type(type()))", 10, api.ErrArity},
		{"f().g()", 0, api.ErrName}, {"a.f().type()", 2, api.ErrName}, {"type(@).type().f()", 8, api.ErrArity}, {"type() | f()", 0, api.ErrArity}, {"f() || type()", 0, api.ErrName}, {"a && type() && f()", 5, api.ErrArity}, {"a == f()", 5, api.ErrName}, {"type() < f()", 0, api.ErrArity}, {"!f()", 1, api.ErrName},
		{"[a, type(), f()]", 4, api.ErrArity}, {"[a].[f()]", 5, api.ErrName}, {"{a: b, c: f(), d: type()}", 10, api.ErrName}, {"{a: type()}.f()", 4, api.ErrArity}, {"[?type()]", 2, api.ErrArity}, {"a[?f()].type()", 3, api.ErrName}, {"(f())", 1, api.ErrName}, {"(type(@)).f()", 10, api.ErrName},
		{"map(&f(), type())", 5, api.ErrName}, {"map(f(), g())", 0, api.ErrArity}, {"merge(a, f(), type())", 9, api.ErrName}, {"type(@, f())", 0, api.ErrArity}, {"type(&f())", 0, api.ErrArity}, {"f(&a, b)", 0, api.ErrName}, {"F()", 0, api.ErrName}, {"\n f()", 2, api.ErrName},
	} {
		wantFault(t, c.expr, c.place, c.errno)
	}
}

func TestP4LargeLiterals(t *testing.T) {
	for _, literal := range []string{
		"`1e10`", "`-1000000000.000001`", "`0.0000001`", "`[1, [2, 1e10]]`", "`{\"a\": {\"b\": 1e-7}}`", "`{\"a\": 1e10, \"a\": 1}`", "` 1e999999999999999999999 `",
	} {
		for _, around := range []string{"_", "a | _", "[_, `1`]", "{a: _}", "[?a == _]", "!_", "(_)", "_.a", "_[0]", "type(_)", "map(&_, @)", "_ == `1`", "`1e10` || _"} {
			expr := strings.Replace(around, "_", literal, 1)
			wantFault(t, expr, 0, api.ErrLarge)
			// No expression at all is told ahead of it, a wrong call behind it.
			wantNone(t, expr+" #", len(expr)+1)
			wantNone(t, expr+".", len(expr)+1)
			wantFault(t, "f() | "+expr, 0, api.ErrLarge)
			wantFault(t, expr+" | type()", 0, api.ErrLarge)
		}
	}
	wantFault(t, "`1e10`"+strings.Repeat(" ", 120), 0, api.ErrLong)
	wantFault(t, "f(`1`)", 0, api.ErrName)
}
