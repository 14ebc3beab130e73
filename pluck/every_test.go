package pluck_test

import (
	"strings"
	"sync"
	"testing"
	"unsafe"

	"pluck/api"
	"pluck/pluck"
)

func TestP1FirstErrorIsTold(t *testing.T) {
	// Too long, no JSON text, with a number that is too great.
	wantError(t, "[1e10,x"+strings.Repeat(" ", 1000), api.ErrLong)
	wantError(t, "1e10"+strings.Repeat(" ", 1000), api.ErrLong)
	wantWrong(t, "[1e10,x", 6)
	wantWrong(t, "x1e10", 0)
	wantWrong(t, "[1e-7", 5)
	wantWrong(t, "1e10 1", 5)
	wantError(t, "[1e10,1e-7]", api.ErrLarge)
}

func TestP1EveryCallEnds(t *testing.T) {
	for _, s := range []string{
		"", "\x00", "\xff\xfe", "\"\\u", strings.Repeat("[", 1000), strings.Repeat("{\"\":", 250), strings.Repeat("\xf0", 1000), "1e" + strings.Repeat("9", 998), "0." + strings.Repeat("0", 998),
		strings.Repeat("[", 9000000), strings.Repeat("9", 9000000), "\"" + strings.Repeat("\\", 9000000),
	} {
		pluck.Compact(s)
		pluck.Show(s)
		pluck.Eval(s, s)
		pluck.Eval("@", s)
		pluck.Run([]string{s}, s)
		pluck.Run([]string{s, s, s}, s)
		pluck.Run([]string{"@"}, s)
	}
	pluck.Run(nil, "")
	pluck.Run(make([]string, 100000), "")
}

// samples are of all the sorts of answers that Compact has.
func samples() []string {
	return []string{
		"", "null", "1e10", "[1,]", `"a\u00e9b"`, `"plain"`, `{"a":1,"b":[true,"x"],"a":{"c":"y"}}`, "[[[[[[[[[[[[[", strings.Repeat(" ", 1001), "1000000000", `{"a":1e-7,"a":1}`,
	}
}

type answer struct {
	text  string
	place int
	errno api.Errno
}

func ask(json string) answer {
	text, place, errno := pluck.Compact(json)
	return answer{text, place, errno}
}

// The string lies on bytes that can be looked at, and changed, afterwards.
func TestP2NothingIsWrittenIntoOrKept(t *testing.T) {
	for _, json := range samples() {
		room := []byte(json + "spare")
		before := string(room)
		got := ask(unsafe.String(unsafe.SliceData(room), len(json)))
		if string(room) != before {
			t.Errorf("Compact(%q) wrote into its argument, or behind it", json)
		}
		text := strings.Clone(got.text)
		for i := range room {
			room[i] = '#'
		}
		if got.text != text {
			t.Errorf("Compact(%q) answers with the memory of its argument", json)
		}
		if again := ask(json); again.text != text || again.place != got.place || again.errno != got.errno {
			t.Errorf("Compact(%q) answers %v, and then %v", json, got, again)
		}
	}
}

func TestP2AnswersHangOnTheArgumentAlone(t *testing.T) {
	all := samples()
	want := make([]answer, len(all))
	for i, json := range all {
		want[i] = ask(json)
	}
	var workers sync.WaitGroup
	for shift := range all {
		workers.Go(func() {
			for i := range all {
				k := (i*7 + shift) % len(all)
				if got := ask(all[k]); got != want[k] {
					t.Errorf("Compact(%q) = %v, and %v at another time", all[k], want[k], got)
				}
			}
		})
	}
	workers.Wait()
}
