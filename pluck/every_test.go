package pluck_test

import (
	"slices"
	"strconv"
	"strings"
	"sync"
	"testing"
	"unsafe"

	"pluck/api"
	"pluck/pluck"
)

func TestP1FirstErrorIsTold(t *testing.T) {
	// Too long, no JSON text, with a number that is too great.
	wantError(t, "[1e10,x"+strings.Repeat(" ", 1000), api.ErrLong)
	wantError(t, "1e10"+strings.Repeat(" ", 1000), api.ErrLong)
	wantWrong(t, "[1e10,x", 6)
	wantWrong(t, "x1e10", 0)
	wantWrong(t, "[1e-7", 5)
	wantWrong(t, "1e10 1", 5)
	wantError(t, "[1e10,1e-7]", api.ErrLarge)
	// Too long, no expression, with a literal's number that is none, wrong calls.
	wantFault(t, "f(`1e10`).type() #"+strings.Repeat(" ", 120), 0, api.ErrLong)
	wantFault(t, "f(`1e10`).type() #", 17, api.ErrSyntax)
	wantFault(t, "f(`1e10`).type()", 0, api.ErrLarge)
	wantFault(t, " f(`1`).type()", 1, api.ErrName)
	wantFault(t, " type(f(), a)", 1, api.ErrArity)
	// The expression's, the text's, then those of the reckoning.
	wantFailed(t, "[1e10,x", api.ErrLarge, "f(`1e10`)")
	wantFailed(t, "[1e10,x", api.ErrName, "f(abs('x'))")
	wantFailed(t, "[1e10,x", api.ErrJSON, "abs('x')")
	wantFailed(t, "[1e10]", api.ErrLarge, "abs('x')")
	wantFailed(t, "[1e9]", api.ErrType, "abs('x')")
	// The command's: of the args and the input, the expression's, then each text's.
	wantRun(t, "-x a..b", "x", "", 2)
	wantRun(t, "a..b", "x"+strings.Repeat(" ", 4000), "", 2)
	wantRun(t, "f(`1e10`)", "x", "", 1)
	wantRun(t, "abs('x')", "x", "", 3)
	wantRun(t, "abs('x')", "[1e10", "", 3)
	wantRun(t, "abs('x')", "1 x", "", 4)
}

func TestP1EveryCallEnds(t *testing.T) {
	for _, s := range []string{
		"", "\x00", "\xff\xfe", "\"\\u", "'", "'\\", "`", "-", "a[", "a.", "[*", "a[*", "[::", "{a:", "type(", "map(&", strings.Repeat("!", 120), strings.Repeat("a|", 60), strings.Repeat("[", 120), strings.Repeat("a(", 60), strings.Repeat("{a:", 40), strings.Repeat("-", 120), strings.Repeat("'", 119), strings.Repeat("[", 1000), strings.Repeat("{\"\":", 250), strings.Repeat("\xf0", 1000), "1e" + strings.Repeat("9", 998), "0." + strings.Repeat("0", 998),
		strings.Repeat("[", 9000000), strings.Repeat("9", 9000000), "\"" + strings.Repeat("\\", 9000000),
	} {
		pluck.Compact(s)
		pluck.Show(s)
		pluck.Eval(s, s)
		pluck.Eval("@", s)
		pluck.Eval(s, "[1]")
		pluck.Run([]string{s}, s)
		pluck.Run([]string{s, s, s}, s)
		pluck.Run([]string{"@"}, s)
		pluck.Run([]string{"-u", "-n", "--", s}, s)
		pluck.Run([]string{"-" + s, s}, s)
		if len(s) <= 1000 {
			pluck.Run([]string{"@"}, "1 "+s+s+" 2 "+s)
		}
	}
	pluck.Run(nil, "")
	pluck.Run(make([]string, 100000), "")
	pluck.Run(slices.Repeat([]string{"-u"}, 100000), "")
}

type answer struct {
	text  string
	place int
	errno api.Errno
}

// A question is a call, and an argument for it.
type question struct {
	call     func(string) (string, int, api.Errno)
	name     string
	argument string
}

func (q question) String() string { return q.name + " of " + strconv.Quote(q.argument) }

func (q question) ask(argument string) answer {
	text, place, errno := q.call(argument)
	return answer{text, place, errno}
}

// questions are of all the sorts of answers that the calls have.
func questions() []question {
	var all []question
	for _, json := range []string{
		"", "null", "1e10", "[1,]", `"a\u00e9b"`, `"plain"`, `{"a":1,"b":[true,"x"],"a":{"c":"y"}}`, "[[[[[[[[[[[[[", strings.Repeat(" ", 1001), "1000000000", `{"a":1e-7,"a":1}`,
	} {
		all = append(all, question{pluck.Compact, "Compact", json})
	}
	for _, expr := range []string{
		"", "a", `"a"`, "'a'", "`1e10`", "`{\"a\":\"b\"}`", "a.b[1:2:3] | {c: 'd', \"e\": `\"f\"`}", "map(&a, b)", "f()", "a.type()", "a..b", "!!!!!!!!!!!!!", strings.Repeat("a", 121),
	} {
		all = append(all, question{pluck.Show, "Show", expr})
	}
	for _, expr := range []string{
		"", "@", "a", "'a'", "`{\"a\":\"b\"}`", "b[*].c", "{c: a, d: 'e'}", "sort(b)", "sort_by(b, &@)", "reverse(b)", "merge(@, {a: b})", "to_string(@)", "join('-', keys(@))", "abs(a)", "sum(`[1e9,1]`)", "f()", "[b, b][] | [::-1]", "a..b", strings.Repeat("a", 121),
	} {
		for _, json := range []string{"", "null", `{"a":"plain","b":["z","x","y"]}`, `{"a":1,"b":[3,1,2,1]}`, "[1,]", "1e10", strings.Repeat(" ", 1001)} {
			all = append(all,
				question{func(expr string) (string, int, api.Errno) { return evaluated(expr, json) }, "Eval with " + json, expr},
				question{func(json string) (string, int, api.Errno) { return evaluated(expr, json) }, "Eval with " + expr, json})
		}
	}
	return append(all, runQuestions()...)
}

// runQuestions have the expression, or the input, as what is asked.
func runQuestions() []question {
	var all []question
	for _, option := range []string{"-u", "-n", "--", "-x"} {
		for _, expr := range []string{"@", "a", "keys(@)[0]", "'plain'", "`\"plain\"`", "merge(`{\"a\":1}`, @)", "a..b"} {
			for _, input := range []string{"", `"plain"`, `{"a":"plain"} {"a":null}`, `{"plain":1}{"plain":2}x`, "[1]", strings.Repeat(" ", 4001)} {
				all = append(all,
					question{func(expr string) (string, int, api.Errno) { return ran(option, expr, input) }, "Run with " + option + " and " + input, expr},
					question{func(input string) (string, int, api.Errno) { return ran(option, expr, input) }, "Run with " + option + " and " + expr, input})
			}
		}
	}
	return all
}

// ran has the status where others have a place.
func ran(option, expr, input string) (string, int, api.Errno) {
	text, status := pluck.Run([]string{option, expr}, input)
	return text, status, api.OK
}

func TestP2ArgsAreNotWrittenInto(t *testing.T) {
	for _, words := range []string{"@", "-u @", "-u -n -- @", "-x @", "@ @", "-u", "--", "a..b", "-- -u", "@ -u", "-n -n -n -u a b"} {
		for _, input := range []string{"", `"x"[]null`, "1 x", strings.Repeat(" ", 4001)} {
			given := args(words)
			room := append(slices.Clone(given), "-u", "--", "spare", "")
			before := slices.Clone(room)
			pluck.Run(room[:len(given)], input)
			if !slices.Equal(room, before) {
				t.Errorf("Run(%q) made its args %q, with their spare room", words, room)
			}
		}
	}
	// They are not kept, though the same list has other words the next time.
	list := []string{"-u", "@"}
	for _, c := range []struct{ first, second, want string }{{"-u", "@", "x\n"}, {"-n", "@", "\"x\"\n"}, {"--", "type(@)", "\"string\"\n"}, {"-u", "@", "x\n"}} {
		list[0], list[1] = c.first, c.second
		if out, status := pluck.Run(list, `"x"`); out != c.want || status != 0 {
			t.Errorf("Run(%q) = %q, %d, want %q", list, out, status, c.want)
		}
	}
}

func evaluated(expr, json string) (string, int, api.Errno) {
	text, errno := pluck.Eval(expr, json)
	return text, 0, errno
}

// The string lies on bytes that can be looked at, and changed, afterwards.
func TestP2NothingIsWrittenIntoOrKept(t *testing.T) {
	for _, q := range questions() {
		room := []byte(q.argument + "spare")
		before := string(room)
		got := q.ask(unsafe.String(unsafe.SliceData(room), len(q.argument)))
		if string(room) != before {
			t.Errorf("%v wrote into its argument, or behind it", q)
		}
		text := strings.Clone(got.text)
		for i := range room {
			room[i] = '#'
		}
		if got.text != text {
			t.Errorf("%v answers with the memory of its argument", q)
		}
		if again := q.ask(q.argument); again.text != text || again.place != got.place || again.errno != got.errno {
			t.Errorf("%v answers %v, and then %v", q, got, again)
		}
	}
}

func TestP2AnswersHangOnTheArgumentAlone(t *testing.T) {
	all := questions()
	want := make([]answer, len(all))
	for i, q := range all {
		want[i] = q.ask(q.argument)
	}
	var workers sync.WaitGroup
	for shift := range 16 {
		workers.Go(func() {
			for i := range all {
				k := (i*7 + shift) % len(all)
				if got := all[k].ask(all[k].argument); got != want[k] {
					t.Errorf("%v answers %v, and %v at another time", all[k], want[k], got)
				}
			}
		})
	}
	workers.Wait()
}
