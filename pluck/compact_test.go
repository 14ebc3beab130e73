package pluck_test

import (
	"strings"
	"testing"

	"pluck/api"
	"pluck/pluck"
)

func wantText(t *testing.T, json, want string) {
	t.Helper()
	if out, at, e := pluck.Compact(json); out != want || at != 0 || e != api.OK {
		t.Errorf("Compact(%q) = %q, %d, %d, want %q", json, out, at, e, want)
	}
}

func wantWrong(t *testing.T, json string, place int) {
	t.Helper()
	if out, at, e := pluck.Compact(json); out != "" || at != place || e != api.ErrJSON {
		t.Errorf("Compact(%q) = %q, %d, %d, want ErrJSON at %d", json, out, at, e, place)
	}
}

func wantError(t *testing.T, json string, want api.Errno) {
	t.Helper()
	if out, at, e := pluck.Compact(json); out != "" || at != 0 || e != want {
		t.Errorf("Compact of %d bytes, %.40q, = %q, %d, %d, want error %d", len(json), json, out, at, e, want)
	}
}

func TestP3Example(t *testing.T) {
	wantText(t, `{"a": 1.50, "b":[1e2,-0], "a":"\u00e9"}`, `{"a":"é","b":[100,0]}`)
	wantWrong(t, `[1,]`, 3)
	wantError(t, `1e10`, api.ErrLarge)
}

func TestP3Words(t *testing.T) {
	for json, want := range map[string]string{
		"null": "null", "\t\n\r false \t\n\r": "false", "[true,true]": "[true,true]",
	} {
		wantText(t, json, want)
	}
	for json, place := range map[string]int{
		"": 0, "  ": 2, "n": 1, "nuLl": 2, "nulll": 4, "True": 0, "tru": 3, "falze": 3, "null,": 4, "null true": 5,
		"\xef\xbb\xbfnull": 0, "\x00": 0, "null\x00": 4, "\fnull": 0, "\vnull": 0, "\u00a0null": 0, "// a": 0, "undefined": 0,
	} {
		wantWrong(t, json, place)
	}
}

func TestP3Length(t *testing.T) {
	for _, most := range []string{
		"1" + strings.Repeat(" ", 999), strings.Repeat("\n", 999) + "1",
		`"` + strings.Repeat("é", 499) + `"`, "[" + strings.Repeat("0,", 498) + "0 ]",
	} {
		if len(most) != 1000 {
			t.Fatalf("%d bytes", len(most))
		}
		wantText(t, most, strings.Trim(strings.Replace(most, " ]", "]", 1), " \n"))
		wantError(t, most+" ", api.ErrLong)
		wantError(t, " "+most, api.ErrLong)
		wantError(t, most+strings.Repeat(" ", 1000000), api.ErrLong)
	}
	wantWrong(t, strings.Repeat(" ", 1000), 1000)
	wantWrong(t, strings.Repeat(" ", 999)+"x", 999)
	wantError(t, strings.Repeat("x", 1001), api.ErrLong)
	// The bytes count, not the code points.
	wantError(t, `"`+strings.Repeat("é", 499)+`a"`, api.ErrLong)
}

func TestP3Depth(t *testing.T) {
	lists := strings.Repeat("[", 12) + strings.Repeat("]", 12)
	wantText(t, lists, lists)
	objects := strings.Repeat(`{"a":`, 12) + "1" + strings.Repeat("}", 12)
	wantText(t, objects, objects)
	mixed := strings.Repeat(`[{"a":`, 6) + "1" + strings.Repeat("}]", 6)
	wantText(t, mixed, mixed)
	// Brackets that have been closed do not count.
	side := "[" + strings.Repeat("[[[]]],{},", 20) + strings.Repeat("[", 11) + strings.Repeat("]", 11) + "]"
	wantText(t, side, side)

	wantWrong(t, strings.Repeat("[", 13)+strings.Repeat("]", 13), 12)
	wantWrong(t, strings.Repeat("[", 12)+"{", 12)
	wantWrong(t, strings.Repeat(`{"a":`, 12)+`{`, 60)
	wantWrong(t, strings.Repeat(`[{"a":`, 6)+"[", 36)
	wantWrong(t, strings.Repeat("[", 12)+"],[", 15)
	wantWrong(t, strings.Repeat("[", 12)+"],[[", 15)
	wantWrong(t, strings.Repeat("[", 12)+"1,[", 14)
	wantWrong(t, strings.Repeat("[", 1000), 12)
	// A bracket in a string is none.
	wantText(t, `"`+strings.Repeat("[{", 20)+`"`, `"`+strings.Repeat("[{", 20)+`"`)
}

func TestP3Numbers(t *testing.T) {
	for json, want := range map[string]string{
		"0": "0", "-0": "0", "-0.0": "0", "0e0": "0", "0E+999999999999999999999": "0", "0.0e-999999999999999999999": "0",
		"7": "7", "-7": "-7", "10": "10", "1.50": "1.5", "1.0": "1", "-1.05": "-1.05", "100": "100", "1e2": "100", "1E2": "100", "1e+2": "100", "1e002": "100", "12.5e1": "125", "1e-0": "1",
		"0.1": "0.1", "1e-6": "0.000001", "-1e-6": "-0.000001", "0.000001": "0.000001", "0.0000010": "0.000001", "10e-7": "0.000001", "1.5e-5": "0.000015",
		"1000000000": "1000000000", "-1000000000": "-1000000000", "1e9": "1000000000", "1000000000.000000": "1000000000", "10000000000e-1": "1000000000", "999999999.999999": "999999999.999999", "-999999999.999999": "-999999999.999999",
		"0.000000000000000000000000000001e36":     "1000000",
		"1" + strings.Repeat("0", 900) + "e-900":  "1",
		"1" + strings.Repeat("0", 900) + "e-0906": "0.000001",
		"0." + strings.Repeat("0", 900) + "1e910": "1000000000",
		"1." + strings.Repeat("0", 900):           "1",
		"1e" + strings.Repeat("0", 900) + "1":     "10",
		"[900719925.474099,0.1,0.2,0.3]":          "[900719925.474099,0.1,0.2,0.3]",
	} {
		wantText(t, json, want)
	}
	for _, json := range []string{
		"1000000000.000001", "-1000000000.000001", "1000000001", "-1000000001", "1e10", "-1e10", "1.000000001e9", "99999999999", "9223372036854775808", "18446744073709551616",
		"1e-7", "-1e-7", "0.0000001", "0.0000015", "1.0000001", "999999999.9999999", "1e-10", "0.1e-6", "9007199254.740993e-1",
		"1e999999999999999999999", "1e-999999999999999999999", "1e18446744073709551616", "1e-18446744073709551617", "1e" + strings.Repeat("9", 990), "1e-" + strings.Repeat("9", 990),
		"[1e10]", `{"a":1e-7}`, `{"a":1e10,"a":1}`, `{"a":[{"b":1e10}],"a":1}`, " 1e10 ",
	} {
		wantError(t, json, api.ErrLarge)
	}
	for json, place := range map[string]int{
		"-": 1, "--1": 1, "- 1": 1, "+1": 0, ".5": 0, "-.5": 1, "00": 1, "01": 1, "-01": 2, "1.": 2, "1.e5": 2, "1..5": 2, "1.5.5": 3, "1e": 2, "1E+": 3, "1e+-5": 3, "1e 5": 2, "1e5.5": 3, "1e5e5": 3,
		"1a": 1, "0x10": 1, "1_000": 1, "1,000": 1, "1 2": 2, "Infinity": 0, "-Infinity": 1, "NaN": 0, "[-]": 2, "[1.]": 3, "[01]": 2, "[1e]": 3, "1.5-": 3, "1-": 1, "1+1": 1,
	} {
		wantWrong(t, json, place)
	}
}

func TestP3Strings(t *testing.T) {
	for json, want := range map[string]string{
		`""`: `""`, `"a b"`: `"a b"`, `"\"\\\/\b\f\n\r\t"`: `"\"\\/\b\f\n\r\t"`,
		`"\u0022\u005c\u002F\u0008\u000c\u000A\u000d\u0009"`: `"\"\\/\b\f\n\r\t"`,
		`"\u0000\u0001\u000b\u000E\u001F\u0020\u007f"`:       "\"\\u0000\\u0001\\u000b\\u000e\\u001f \x7f\"",
		`"\u00e9\u00E9é"`: `"ééé"`, `"\u2028\uFEFF\ufffd"`: "\"\u2028\ufeff\ufffd\"", "\"\ufeff\ufffd\uffff\"": "\"\ufeff\ufffd\uffff\"",
		"\"\x7f'`\"": "\"\x7f'`\"",
		// The first and last of each length.
		"\"\u0080\u07ff\u0800\ud7ff\ue000\uffff\U00010000\U0010ffff\"": "\"\u0080\u07ff\u0800\ud7ff\ue000\uffff\U00010000\U0010ffff\"",
	} {
		wantText(t, json, want)
	}
	for json, place := range map[string]int{
		`"`: 1, `"a`: 2, `"a" "`: 4, `"""`: 2, `"\`: 2, `"\"`: 3, `"\x41"`: 2, `"\a"`: 2, `"\'"`: 2, `"\0"`: 2, `"\U0041"`: 2,
		"\"\n\"": 1, "\"a\t\"": 2, "\"\x00\"": 1, "\"\x1f\"": 1, "\"\\\n\"": 2, `'a'`: 0,
		`"\u`: 3, `"\u"`: 3, `"\u1`: 4, `"\u12"`: 5, `"\u12g4"`: 5, `"\u123"`: 6, `"\u123G"`: 6, `"\u 123"`: 3, `"\u+123"`: 3,
	} {
		wantWrong(t, json, place)
	}
}

func TestP3Surrogates(t *testing.T) {
	for json, want := range map[string]string{
		`"\ud83d\ude00"`: `"😀"`, `"\uD83D\uDE00😀"`: `"😀😀"`, `"\uD800\uDC00"`: "\"\U00010000\"", `"\udbff\udfff"`: "\"\U0010ffff\"",
		`"\udbFf\uDc00"`: "\"\U0010fc00\"", `"\ud800\udfff"`: "\"\U000103ff\"",
		`"\ud83d\ude00\ud83d\ude01"`: `"😀😁"`, `"\ud7ff\ue000"`: "\"\ud7ff\ue000\"", `"\\ud83d"`: `"\\ud83d"`, `{"\ud83d\ude00":1,"😀":2}`: `{"😀":2}`,
	} {
		wantText(t, json, want)
	}
	for json, place := range map[string]int{
		`"\ud83d`: 7, `"\ud83d"`: 7, `"\ud83dx"`: 7, `"\ud83d\`: 8, `"\ud83d\n"`: 8, `"\ud83d\"`: 8, `"\ud83d\u`: 9, `"\ud83d\u0041"`: 9, `"\ud83d\ue000"`: 9, `"\ud83d\ug"`: 9,
		`"\ud83d\uD`: 10, `"\ud83d\ud7ff"`: 10, `"\ud83d\ud83d\ude00"`: 10, `"\ud83d\udb"`: 10, `"\ud83d\udg"`: 10, `"\ud83d\udc"`: 11, `"\ud83d\udc0g"`: 12, `"\ud83d\udc0`: 12, `"\ud83d\udc00`: 13,
		`"\udc00"`: 4, `"\uDFFF"`: 4, `"\ude00\ud83d"`: 4, `"\ud83d\ude00\ude00"`: 16, `"\ud`: 4, `"\udg"`: 4, `"\ud8"`: 5, `"\ud83g"`: 6, "\"\\ud83d\xf0": 7,
	} {
		wantWrong(t, json, place)
	}
}

func TestP3UTF8(t *testing.T) {
	for json, place := range map[string]int{
		// Bytes that begin nothing.
		"\"\x80\"": 1, "\"a\xbf\"": 2, "\"\xc0\x80\"": 1, "\"\xc1\xbf\"": 1, "\"\xf5\x80\x80\x80\"": 1, "\"\xfe\"": 1, "\"\xff\"": 1,
		// Longer than need be; surrogates; beyond the last.
		"\"\xe0\x80\x80\"": 2, "\"\xe0\x9f\xbf\"": 2, "\"\xed\xa0\x80\"": 2, "\"\xed\xbf\xbf\"": 2, "\"\xf0\x80\x80\x80\"": 2, "\"\xf0\x8f\xbf\xbf\"": 2, "\"\xf4\x90\x80\x80\"": 2, "\"\xf4\xbf\xbf\xbf\"": 2,
		// Cut off by another byte.
		"\"\xc2\"": 2, "\"\xc2a\"": 2, "\"\xc2\xc2\x80\"": 2, "\"\xe1\"": 2, "\"\xe1\x80\"": 3, "\"\xe1\x80a\"": 3, "\"\xe1\x80\xc0\"": 3, "\"\xf1\x80\"": 3, "\"\xf1\x80\x80\"": 4, "\"\xf1\x80\x80\x7f\"": 4, "\"\xc2\x00\"": 2,
		// Cut off by the end.
		"\"\xc2": 2, "\"\xe0": 2, "\"\xe0\xa0": 3, "\"\xf0": 2, "\"\xf0\x90": 3, "\"\xf4\x8f\xbf": 4, "\"\xf4\x8f\xbf\xbf": 5,
		// The same in keys, and outside of strings.
		"{\"\xff\":1}": 2, "{\"\xe1\x80\":1}": 4, "é": 0, "1é": 1, "[\xff]": 1, "\xc2\xa01": 0,
	} {
		wantWrong(t, json, place)
	}
}

func TestP3Lists(t *testing.T) {
	for json, want := range map[string]string{
		"[]": "[]", " [ ] ": "[]", "[\t1\n,\r2 , [ ] ]": "[1,2,[]]", `[null,false,true,0,"",[],{}]`: `[null,false,true,0,"",[],{}]`, "[[1],[1]]": "[[1],[1]]",
	} {
		wantText(t, json, want)
	}
	for json, place := range map[string]int{
		"[": 1, "[ ": 2, "[1": 2, "[1,": 3, "[1, ": 4, "[,": 1, "[1,]": 3, "[1,,2]": 3, "[1 2]": 3, "[1}": 2, "[}": 1, "[]]": 2, "[][]": 2, "[],": 2, "[1]x": 3, "]": 0, "[1:2]": 2, "[nul]": 4, `["a]`: 4, "[ 1 , x ]": 6,
	} {
		wantWrong(t, json, place)
	}
}

func TestP3Objects(t *testing.T) {
	for json, want := range map[string]string{
		"{}": "{}", "{ }": "{}", "{ \"b\" :\t1 ,\n\"a\"\r: [ ] }": `{"b":1,"a":[]}`, `{"":0}`: `{"":0}`, `{"a":{"a":{}}}`: `{"a":{"a":{}}}`, `{"\n\u0041":1}`: `{"\nA":1}`,
	} {
		wantText(t, json, want)
	}
	for json, place := range map[string]int{
		"{": 1, "{ ": 2, "{a:1}": 1, "{1:2}": 1, "{'a':1}": 1, "{null:1}": 1, "{,}": 1, "{]": 1, "{[": 1, `{"a`: 3, `{"a"`: 4, `{"a"}`: 4, `{"a",`: 4, `{"a" 1}`: 5, `{"a"=1}`: 4, `{"a":`: 5, `{"a":}`: 5, `{"a"::1}`: 5, `{"a":,`: 5,
		`{"a":1`: 6, `{"a":1]`: 6, `{"a":1,`: 7, `{"a":1,}`: 7, `{"a":1,,"b":2}`: 7, `{"a":1,1}`: 7, `{"a":1 "b":2}`: 7, `{"a":1:2}`: 6, `{}}`: 2, `{}{}`: 2, `}`: 0, `{"a":1}x`: 7, `"a":1`: 3,
	} {
		wantWrong(t, json, place)
	}
}

func TestP3KeysTwice(t *testing.T) {
	for json, want := range map[string]string{
		`{"a":1,"b":2,"a":3}`: `{"a":3,"b":2}`, `{"a":1,"b":2,"c":3,"b":4,"a":5,"b":6}`: `{"a":5,"b":6,"c":3}`, `{"a":1,"\u0061":[]}`: `{"a":[]}`, `{"\u0061":1,"a":null}`: `{"a":null}`,
		`{"a":1,"A":2,"a ":3,"":4}`: `{"a":1,"A":2,"a ":3,"":4}`, `{"":1,"":2}`: `{"":2}`, `{"a":{"a":1,"b":2},"b":{"a":3,"a":4}}`: `{"a":{"a":1,"b":2},"b":{"a":4}}`, `[{"a":1},{"a":2}]`: `[{"a":1},{"a":2}]`,
		// One letter, composed in two ways, is two keys.
		"{\"\u00e9\":1,\"e\u0301\":2}": "{\"\u00e9\":1,\"e\u0301\":2}",
	} {
		wantText(t, json, want)
	}
}
