package pluck_test

import (
	"strings"
	"testing"

	"pluck/api"
	"pluck/pluck"
)

// args are words with one blank between; `_` stands for the empty one.
func args(words string) []string {
	if words == "" {
		return nil
	}
	all := strings.Split(words, " ")
	for i := range all {
		if all[i] == "_" {
			all[i] = ""
		}
	}
	return all
}

func wantRun(t *testing.T, words, input, want string, status int) {
	t.Helper()
	if out, got := pluck.Run(args(words), input); out != want || got != status {
		t.Errorf("Run(%.80q, %.120q) = %.200q, %d, want %.200q, %d", words, input, out, got, want, status)
	}
}

func TestP9Example(t *testing.T) {
	wantRun(t, "-u a", `{"a":"x"} {"a":1}[]`, "x\n1\nnull\n", 0)
}

func TestP9Options(t *testing.T) {
	const input = `{"a":"é\n\"\\\u0001"} {"a":null} {"a":["x",null]} {} {"a":""}`
	const told, bare = `"é\n\"\\\u0001"`, "é\n\"\\\x01"
	all := told + "\nnull\n[\"x\",null]\nnull\n\"\"\n"
	for _, words := range []string{"a", "-- a"} {
		wantRun(t, words, input, all, 0)
	}
	for _, words := range []string{"-u a", "-u -u a", "-u -- a", "-u -u -u -- a"} {
		wantRun(t, words, input, bare+"\nnull\n[\"x\",null]\nnull\n\n", 0)
	}
	for _, words := range []string{"-n a", "-n -n a", "-n -- a"} {
		wantRun(t, words, input, told+"\n[\"x\",null]\n\"\"\n", 0)
	}
	for _, words := range []string{"-u -n a", "-n -u a", "-n -u -n a", "-u -n -- a", "-n -u -u -- a"} {
		wantRun(t, words, input, bare+"\n[\"x\",null]\n\n", 0)
	}
	// A string that looks like another thing is a string still.
	wantRun(t, "@", `"null" "1" "\"x\"" "[]"`, "\"null\"\n\"1\"\n\"\\\"x\\\"\"\n\"[]\"\n", 0)
	wantRun(t, "-u -n @", `"null" "1" "\"x\"" "[]" " "`, "null\n1\n\"x\"\n[]\n \n", 0)
	// What is not null, but false like, is told.
	wantRun(t, "-n @", `false 0 "" [] {} null [null]`, "false\n0\n\"\"\n[]\n{}\n[null]\n", 0)
	// What the expression gives counts, not the text.
	wantRun(t, "-n type(@)", "null 1", "\"null\"\n\"number\"\n", 0)
	wantRun(t, "-n `null`", "null 1 {}", "", 0)
	wantRun(t, "-u to_string(@)", `[1,"x"] null "y"`, "[1,\"x\"]\nnull\ny\n", 0)
	wantRun(t, "-u [@]", `"y"`, "[\"y\"]\n", 0)
}

func TestP9Args(t *testing.T) {
	for _, words := range []string{
		// Not just one expression.
		"", "-u", "-n", "-u -n", "--", "-u --", "-n -u --", "a b", "@ @", "-u a b", "-- a b", "-u -- a b", "@ _", "_ @", "_ _", "-- _ _", "- @", "@ -", "- -", "-- - @", "-- -- @", "-- -u @", "-- -n @", "-- @ --", "-- -- --", "-- @ -u",
		// Options stand ahead.
		"@ -u", "@ -n", "@ --", "@ -x", "@ -- @", "@ -u --", "-u @ -n", "@ -- -u",
		// Another thing that begins with `-`.
		"-x @", "-x", "-un @", "-nu @", "-uu @", "-U @", "-N @", "--u @", "--n @", "---", "--- @", "--help", "--help @", "-1", "-1 @", "-@", "-u -x @", "-n -x", "-x -- @", "-u -x -- @", "-x -u @", "-\x00 @", "-é @", "-u\n @", "-\t",
	} {
		// Whatever else is wrong, this is told first.
		for _, input := range []string{"1", "", "x", "1 x", strings.Repeat("1", 4001)} {
			wantRun(t, words, input, "", 2)
		}
	}
	// Behind `--` nothing is an option, nor is `-` alone, or the empty one; but
	// they are no expressions.
	for _, words := range []string{"-- -", "-- -1", "-- -u", "-- -n", "-- --", "-- -x", "-- ---", "-u -- -n", "-n -- --", "-", "-u -", "_", "-n _", "-- _"} {
		wantRun(t, words, "1", "", 1)
	}
	if out, status := pluck.Run([]string{}, "1"); out != "" || status != 2 {
		t.Errorf("Run of an empty list = %q, %d", out, status)
	}
	if out, status := pluck.Run([]string{" -u", "@"}, "1"); out != "" || status != 2 {
		t.Errorf("Run of an option with a blank ahead = %q, %d", out, status)
	}
	if out, status := pluck.Run([]string{"-u", " @ "}, `"x"`); out != "x\n" || status != 0 {
		t.Errorf("Run of an expression with blanks = %q, %d", out, status)
	}
}

// Whatever error Show has: nothing is told, though the input is wrong too.
func TestP9Expressions(t *testing.T) {
	for _, expr := range []string{
		"", " ", "a b", "a..b", "a.", "[", "1", "f(@)", "abs()", "abs(@, @)", "map(@, &@)", "type(f())", "`1e10`", "`1e-7`", "`x`", "'\xff'", "\x00", "!!!!!!!!!!!!!@", strings.Repeat("a", 121), strings.Repeat(" ", 120) + "@", strings.Repeat("a", 1000000),
	} {
		if _, _, e := pluck.Show(expr); e == api.OK {
			t.Fatalf("Show(%q) has no error", expr)
		}
		for _, input := range []string{"", "1", "1 2", "x", "1 x", "[1e10]", strings.Repeat(" ", 4000)} {
			for _, words := range [][]string{{expr}, {"-u", expr}, {"-n", "--", expr}} {
				if out, status := pluck.Run(words, input); out != "" || status != 1 {
					t.Errorf("Run(%.60q, %.60q) = %q, %d, want 1", words, input, out, status)
				}
			}
		}
	}
	// At the bound there is none.
	if out, status := pluck.Run([]string{"@" + strings.Repeat(" ", 119)}, "1"); out != "1\n" || status != 0 {
		t.Errorf("Run of 120 bytes = %q, %d", out, status)
	}
}

func TestP9TextsBehindOneAnother(t *testing.T) {
	for input, want := range map[string]string{
		"": "", " ": "", "\t\n\r ": "", "1": "1\n", " 1": "1\n", "1\n": "1\n", "\r\n1\t2 \n 3\r": "1\n2\n3\n", "1  2": "1\n2\n",
		// Two may touch.
		"[][]": "[]\n[]\n", "{}{}": "{}\n{}\n", "[]{}": "[]\n{}\n", `""""`: "\"\"\n\"\"\n", "nullnull": "null\nnull\n", "truefalse": "true\nfalse\n", "falsenulltrue": "false\nnull\ntrue\n",
		"1[]": "1\n[]\n", "[]1": "[]\n1\n", "1{}2": "1\n{}\n2\n", `1"a"2`: "1\n\"a\"\n2\n", "1null": "1\nnull\n", "null1": "null\n1\n", "1true": "1\ntrue\n", "1false0": "1\nfalse\n0\n", "true-1": "true\n-1\n", "[]-1": "[]\n-1\n", `"a"-1.5e1"b"`: "\"a\"\n-15\n\"b\"\n", "{}0": "{}\n0\n", "true0false": "true\n0\nfalse\n", "1e2[1e2]": "100\n[100]\n", "1E+2null": "100\nnull\n", "-0true": "0\ntrue\n", "0.5{}": "0.5\n{}\n", `null"x"[]{}true`: "null\n\"x\"\n[]\n{}\ntrue\n",
		// Brackets, quotes and texts within strings end nothing.
		`"]"["]"]{"}":"{"}`: "\"]\"\n[\"]\"]\n{\"}\":\"{\"}\n", `"a\"b""c\\""d"`: "\"a\\\"b\"\n\"c\\\\\"\n\"d\"\n", `"1 2"3`: "\"1 2\"\n3\n", `["a b",1 , 2 ][ 3]`: "[\"a b\",1,2]\n[3]\n", "{\"a\":\n1}\n{\"a\"\t:2}": "{\"a\":1}\n{\"a\":2}\n",
		// Each counts for itself.
		`{"a":1,"a":2}{"a":3}`: "{\"a\":2}\n{\"a\":3}\n", `"\ud83d\ude00""é"`: "\"😀\"\n\"é\"\n",
		strings.Repeat("[", 12) + strings.Repeat("]", 12) + strings.Repeat("[", 12) + strings.Repeat("]", 12): strings.Repeat(strings.Repeat("[", 12)+strings.Repeat("]", 12)+"\n", 2),
		strings.Repeat("[]", 1000): strings.Repeat("[]\n", 1000),
	} {
		wantRun(t, "@", input, want, 0)
		wantRun(t, "@", " "+input+"\n", want, 0)
		wantRun(t, "@", input+" x", want, 3)
		wantRun(t, "type(@)|`7`", input, strings.Repeat("7\n", strings.Count(want, "\n")), 0)
	}
}

func TestP9WrongTexts(t *testing.T) {
	for _, input := range []string{
		"x", "]", "}", "[", "{", ",", ":", "[1,]", "[1 2]", "[1", `{"a"}`, `{"a":}`, `{"a":1`, "{1:2}", "[}", "{]", "[1}", "'a'", "`1`", "@", "nul", "nil", "Null", "tru", "TRUE", "falsy", "n", "t", "f", `"`, `"a`, `"\"`, "\"\n\"", "\"\t\"", `"\x"`, `"\ud800"`, `"\udc00\ud800"`, "\"\xff\"", "\"\xed\xa0\x80\"", "\xff", "\x00", "\ufeff1", "\ufeff", "\v1", "\f1", "\u00a01", "//", "#", "/**/1", "NaN", "Infinity", "undefined",
		// A number takes all that numbers are made of.
		"01", "00", "-", "--1", "-01", "+1", "+", ".5", ".", "e", "E5", "1e", "1e+", "1.", "1.e1", "1-2", "1-", "1+", "1+2", "1.5.5", "1e5e5", "1e5E5", "1E5e", "1E5E+5", "1e1.5", "1e+-1", "1E", "0-", "0e", "0.", "0.0.", "-1-1", "1..2", "1ee", "12-[]", "1-true", "1enull", "1e+e",
		// Errors of Compact.
		"1e10", "-1e10", "1e-7", "1000000000.000001", "[1e10]", `{"a":[1e-7]}`, `{"a":1e10,"a":1}`, strings.Repeat("[", 13) + strings.Repeat("]", 13), strings.Repeat("9", 100), strings.Repeat("1", 1000), `"` + strings.Repeat("a", 999) + `"`, "[" + strings.Repeat(" ", 999) + "]", "0." + strings.Repeat("0", 999), "[" + strings.Repeat("1,", 499) + "1]",
	} {
		for _, words := range []string{"@", "-u @", "-n @", "'x'", "-u -n -- abs('x')"} {
			wantRun(t, words, input, "", 3)
			wantRun(t, words, " \n"+input, "", 3)
		}
		wantRun(t, "@", "1 "+input, "1\n", 3)
		wantRun(t, "-u @", `"a"`+input, "a\n", 3)
		wantRun(t, "-n @", "[2]null{}"+input, "[2]\n{}\n", 3)
	}
	// What is ahead of the fault was told; what is behind it is not.
	for input, want := range map[string]string{
		"1,2": "1\n", "1:2": "1\n", "[1],[2]": "[1]\n", "{}}": "{}\n", "[]]": "[]\n", "[1][2": "[1]\n", "[1] [2,] [3]": "[1]\n", "1 2 x 3": "1\n2\n", "nulll": "null\n", "nullx": "null\n", "truet": "true\n", "trueex": "true\n", "truee1": "true\n", "true+1": "true\n", "false.5": "false\n", `"a"b"c"`: "\"a\"\n", `"a""`: "\"a\"\n", `"a"""b`: "\"a\"\n\"\"\n", "[]e": "[]\n", "1 1e10 2": "1\n", "1 -": "1\n", "1 2-": "1\n", "1\v2": "1\n", "1\x002": "1\n", "1\ufeff": "1\n", "1x": "1\n", "1_000": "1\n", "0x10": "0\n", "1a": "1\n", "1 01 2": "1\n", "{}[1e-7]{}": "{}\n", "1;2": "1\n", "1/2": "1\n",
	} {
		wantRun(t, "@", input, want, 3)
	}
}

// checkLengths asks of one text of 1000 bytes, and one of 1001.
func checkLengths(t *testing.T, most, more string) {
	t.Helper()
	said, _, e := pluck.Compact(most)
	if _, _, long := pluck.Compact(more); e != api.OK || long != api.ErrLong {
		t.Fatalf("Compact of %d and %d bytes: %d, %d", len(most), len(more), e, long)
	}
	wantRun(t, "@", most, said+"\n", 0)
	wantRun(t, "@", strings.Repeat(" ", 1500)+most+strings.Repeat("\n", 1500), said+"\n", 0)
	wantRun(t, "@", most+"[]"+most+" "+most, said+"\n[]\n"+said+"\n"+said+"\n", 0)
	wantRun(t, "@", more, "", 3)
	wantRun(t, "@", "1 "+more+" 2", "1\n", 3)
	wantRun(t, "abs('x')", more, "", 3)
}

// A text has at most 1000 bytes, the input 4000; blanks around texts are of none.
func TestP9Lengths(t *testing.T) {
	for _, around := range [][2]string{{"[", "]"}, {"[" + strings.Repeat("1,", 400), "1]"}, {`"`, ` "`}, {`"é`, `"`}, {`{"a":`, "1}"}, {"[1", ",2]"}} {
		most := around[0] + strings.Repeat(" ", 1000-len(around[0]+around[1])) + around[1]
		more := around[0] + " " + most[len(around[0]):]
		checkLengths(t, most, more)
	}
	noughts := "0." + strings.Repeat("0", 998)
	checkLengths(t, noughts, noughts+"0")
	for _, full := range []string{strings.Repeat("[1] ", 1000), strings.Repeat(" ", 4000), strings.Repeat(" ", 3999) + "1", "1" + strings.Repeat("\n", 3999), strings.Repeat("12 \n", 1000)} {
		if out, status := pluck.Run([]string{"@"}, full); status != 0 || strings.Count(out, "\n") != len(strings.Fields(full)) {
			t.Errorf("Run of %d bytes, %.20q = %.60q, %d", len(full), full, out, status)
		}
		wantRun(t, "@", full+" ", "", 2)
		wantRun(t, "@", " "+full, "", 2)
		wantRun(t, "a..b", full, "", 1)
		wantRun(t, "a..b", full+" ", "", 2)
		wantRun(t, "@", full+strings.Repeat("x", 1000000), "", 2)
	}
	// Bytes count, not code points.
	wantRun(t, "length(@)", strings.Repeat(`"é"`, 1000), strings.Repeat("1\n", 1000), 0)
	wantRun(t, "length(@)", strings.Repeat(`"é"`, 1000)+" ", "", 2)
}

func TestP9Reckoning(t *testing.T) {
	wantRun(t, "abs(@)", `1 -2 "x" 3`, "1\n2\n", 4)
	wantRun(t, "abs(@)", `"x"`, "", 4)
	wantRun(t, "abs(@)", `1"x"`, "1\n", 4)
	wantRun(t, "sum(@)", "[1][1e9,1][2]", "1\n", 4)
	wantRun(t, "-u -n a||abs(b)", `{"a":"x"}{"b":-1}{"a":null}{"a":1}`, "x\n1\n", 4)
	wantRun(t, heavy+"[@,@]", `""`+long+"x", "[\"\",\"\"]\n", 4)
	wantRun(t, "-n @.abs(@)", "1 null", "1\n", 4)
	// The first that is wrong counts, whichever of the two it is.
	wantRun(t, "abs(@)", `1 "x" x`, "1\n", 4)
	wantRun(t, "abs(@)", `1 x "x"`, "1\n", 3)
	wantRun(t, "abs(@)", `"x"x`, "", 4)
	wantRun(t, "abs(@)", `"x`, "", 3)
	wantRun(t, "abs(@)", `["x"`, "", 3)
	wantRun(t, "abs('x')", "1e10", "", 3)
	wantRun(t, "abs('x')", "1 1e10", "", 4)
	wantRun(t, "abs('x')", " \n", "", 0)
	wantRun(t, "sum(@)", "[1e10]", "", 3)
	wantRun(t, "length(@)", `"ab" [1] {} 1 []`, "2\n1\n0\n", 4)
}

// Nothing is carried over from one text to the next.
func TestP9TextsByThemselves(t *testing.T) {
	wantRun(t, "sort(`[3,1,2]`)", "1 2", "[1,2,3]\n[1,2,3]\n", 0)
	wantRun(t, "merge(`{\"a\":1,\"b\":2}`,@)", `{"a":3}{"c":4}{}`, "{\"a\":3,\"b\":2}\n{\"a\":1,\"b\":2,\"c\":4}\n{\"a\":1,\"b\":2}\n", 0)
	wantRun(t, "reverse(`[1,2]`)", "[] [] []", "[2,1]\n[2,1]\n[2,1]\n", 0)
	wantRun(t, "[`[1,[2]]`,@][]", "3 [4] null", "[1,[2],3]\n[1,[2],4]\nnull\n", 0)
	wantRun(t, "{a:@,b:a}", `{"a":1}[]null`, "{\"a\":{\"a\":1},\"b\":1}\n{\"a\":[],\"b\":null}\nnull\n", 0)
	wantRun(t, "map(&[@],@)", "[1,2][3][]", "[[1],[2]]\n[[3]]\n[]\n", 0)
	// Each may be heavy, since each is weighed alone.
	wantRun(t, heavy+"length(@)", strings.Repeat(long+" ", 4), strings.Repeat("19992\n", 4), 0)
}
