package pluck_test

import (
	"math/rand/v2"
	"strings"
	"testing"

	"pluck/api"
	"pluck/pluck"
)

// wantAgain: Compact of what Compact tells is the same, and `@` gives it too.
func wantAgain(t *testing.T, json string) {
	t.Helper()
	once, _, e := pluck.Compact(json)
	if e != api.OK {
		t.Errorf("Compact(%.100q): %d", json, e)
		return
	}
	if out, e := pluck.Eval("@", json); out != once || e != api.OK {
		t.Errorf("@ of %.100q = %.100q, %d, want %.100q", json, out, e, once)
	}
	twice, at, e := pluck.Compact(once)
	if len(once) > 1000 {
		if twice != "" || at != 0 || e != api.ErrLong {
			t.Errorf("Compact of %d bytes = %.100q, %d, %d", len(once), twice, at, e)
		}
		return
	}
	if twice != once || e != api.OK {
		t.Errorf("Compact(%.100q) = %.100q, and of that %.100q, %d", json, once, twice, e)
	}
	wantRun(t, "@", json+" "+once+" ", once+"\n"+once+"\n", 0)
}

func TestP10CompactOfCompact(t *testing.T) {
	for _, json := range []string{
		"null", " true ", "-0", "1e9", "-1e-6", "1.50", `""`, `"\u0000\u001F\u007f\/\"\\\b\f\n\r\t\u00e9\ud83d\ude00"`, "[ ]", "{ }", `{"a" : 1, "b": 2, "a": [3]}`, `{"\u0061":1,"a":2}`, strings.Repeat("[", 12) + strings.Repeat("]", 12), `{"":{"":[{}]}}`,
		// These become longer: to 1000 bytes, to 1001, and far beyond.
		"[" + strings.Repeat("1e9,", 90) + `"123456"]`, "[" + strings.Repeat("1e9,", 90) + `"1234567"]`, "[" + strings.Repeat("1e-6,", 199) + "1]", "[" + strings.Repeat("1e9,", 249) + "1]",
	} {
		wantAgain(t, json)
	}
	r := rand.New(rand.NewPCG(11, 12))
	for range 3000 {
		if json := randomText(r, r.IntN(5)); len(json) <= 1000 && fits(json) {
			wantAgain(t, json)
		}
	}
}

// pipeOf asks b of what a gives, and tells whether that may be read.
func pipeOf(a, b, json string) (string, api.Errno, bool) {
	between, e := pluck.Eval(a, json)
	if e != api.OK {
		return "", e, true
	}
	if _, _, e := pluck.Compact(between); e != api.OK {
		return "", api.OK, false
	}
	out, e := pluck.Eval(b, between)
	return out, e, true
}

func TestP10PipeIsOneBehindTheOther(t *testing.T) {
	r := rand.New(rand.NewPCG(13, 14))
	asked, failed := 0, 0
	for range 40000 {
		first, second := &asker{r, 1 + r.IntN(6)}, &asker{r, 1 + r.IntN(6)}
		a, b, json := first.expr(), second.expr(), randomJSON(r, r.IntN(4))
		if len(a)+len(b)+3 > 120 || len(json) > 1000 || deepest(a) > 12 || deepest(b) > 12 {
			continue
		}
		want, wantE, readable := pipeOf(a, b, json)
		if !readable {
			continue
		}
		out, e := pluck.Eval(a+" | "+b, json)
		if out != want || e != wantE {
			t.Errorf("%s | %s of %.200s = %.200s, %d, want %.200s, %d", a, b, json, out, e, want, wantE)
		}
		asked++
		if e != api.OK {
			failed++
		}
	}
	if asked < 10000 || failed < 1000 || failed > asked-5000 {
		t.Errorf("%d were asked, of which %d had an error", asked, failed)
	}
	// So it is of what the command tells, if that is handed to it again.
	between, _ := pluck.Run([]string{"a[]"}, `{"a":[[1],[2,3]]}{"a":4}{"a":[]}`)
	again, _ := pluck.Run([]string{"length(@) || [0]"}, strings.ReplaceAll(between, "null\n", ""))
	wantRun(t, "a[]", `{"a":[[1],[2,3]]}{"a":4}{"a":[]}`, "[1,2,3]\nnull\n[]\n", 0)
	if again != "3\n0\n" {
		t.Errorf("of %q it is %q", between, again)
	}
}
