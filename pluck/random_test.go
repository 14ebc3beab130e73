package pluck_test

import (
	"encoding/json"
	"math/rand/v2"
	"slices"
	"strings"
	"testing"

	"pluck/api"
	"pluck/pluck"
)

// An asker makes expressions, mostly of what the texts of randomJSON have.
type asker struct {
	r    *rand.Rand
	left int
}

func (a *asker) spend() bool {
	a.left--
	return a.left > 0
}

func (a *asker) name() string { return pick(a.r, "a", "b", "c", "d", `"e f"`) }

func (a *asker) expr() string {
	if !a.spend() {
		return a.simple()
	}
	switch a.r.IntN(14) {
	case 0:
		return a.expr() + "|" + a.expr()
	case 1:
		return "(" + a.expr() + ")" + pick(a.r, "||", "&&") + a.chain()
	case 2:
		return a.chain() + pick(a.r, "||", "&&") + a.chain()
	case 3:
		return "!" + a.chain()
	case 4, 5:
		return a.chain() + pick(a.r, "==", "!=", "<", "<=", ">", ">=") + a.chain()
	}
	return a.chain()
}

func (a *asker) simple() string {
	return pick(a.r, "@", "@", "a", "b", "c", "'x'", "''", "`1`", "`null`", "`-2.5`", "`[3,1,2]`", "`[\"b\",\"a\"]`", "`{\"b\":1,\"z\":[2,[3]]}`", "`[]`", "`1e9`", "'1.5'")
}

func (a *asker) chain() string {
	chain := a.first()
	for a.r.IntN(2) == 0 && a.spend() {
		chain += a.step()
	}
	return chain
}

func (a *asker) first() string {
	if !a.spend() {
		return a.simple()
	}
	switch a.r.IntN(12) {
	case 0:
		return a.bracket()
	case 1:
		return "*"
	case 2:
		return a.list()
	case 3:
		return a.object()
	case 4, 5:
		return a.call()
	case 6:
		return "(" + a.expr() + ")"
	case 7, 8:
		return a.name()
	}
	return a.simple()
}

func (a *asker) step() string {
	switch a.r.IntN(10) {
	case 0:
		return ".*"
	case 1:
		return "." + a.call()
	case 2:
		return "." + a.list()
	case 3:
		return "." + a.object()
	case 4, 5, 6:
		return "." + a.name()
	}
	return a.bracket()
}

func (a *asker) bracket() string {
	switch a.r.IntN(8) {
	case 0, 1:
		return "[*]"
	case 2, 3:
		return "[]"
	case 4:
		return "[?" + a.expr() + "]"
	case 5:
		return "[" + pick(a.r, "", "1", "-2", "3") + ":" + pick(a.r, "", "2", "-1") + pick(a.r, "", ":", ":-1", ":2") + "]"
	}
	return "[" + pick(a.r, "0", "1", "-1", "2", "-3") + "]"
}

// list has no `*` alone in it, which Show tells as it tells a bracket.
func (a *asker) list() string {
	if a.r.IntN(4) == 0 {
		return pick(a.r, "[@,@]", "[@,@,@,@]", "[@]")
	}
	if a.r.IntN(2) == 0 {
		return "[" + a.name() + "]"
	}
	return "[" + a.expr() + "," + a.expr() + "]"
}

func (a *asker) object() string {
	object := "{" + a.name() + ":" + a.expr()
	for a.r.IntN(2) == 0 {
		object += "," + a.name() + ":" + a.expr()
	}
	return object + "}"
}

func (a *asker) call() string {
	words := make([]string, 0, 26)
	all := takes()
	for word := range all {
		words = append(words, word)
	}
	slices.Sort(words)
	word := pick(a.r, words...)
	var args []string
	for _, kind := range all[word] {
		args = append(args, a.arg(kind))
	}
	if word == "merge" || word == "not_null" {
		args = args[:1+a.r.IntN(len(args))]
	}
	return word + "(" + strings.Join(args, ",") + ")"
}

// arg is often, not always, of a kind that is taken.
func (a *asker) arg(kind string) string {
	if kind[0] == '&' {
		return "&" + pick(a.r, a.expr(), a.name(), "@", "to_string(@)", "length(to_string(@))")
	}
	if a.r.IntN(3) == 0 || kind == "any" {
		return a.expr()
	}
	switch pick(a.r, strings.Fields(kind)...) {
	case "num":
		return pick(a.r, "length(to_array(@))", "`-0.5`", "sum(`[1,2]`)", "to_number('7.25')", "a", "[0]")
	case "str":
		return pick(a.r, "to_string(@)", "'ab'", "type(@)", "b", "to_string("+a.expr()+")", "join('b',['a','é'])")
	case "obj":
		return pick(a.r, "@", "a", "{a:@}", a.object(), "`{\"b\":0,\"c\":1}`")
	case "nums":
		return pick(a.r, "`[1,-3,2.5]`", "[?type(@)=='number']", "@", "map(&length(to_string(@)),to_array(@))", "a", "`[1e9,1]`")
	case "strs":
		return pick(a.r, "`[\"b\",\"é\",\"a\"]`", "keys(@)", "map(&to_string(@),to_array(@))", "@", "[type(@),'z']", "a")
	}
	return pick(a.r, "@", "to_array(@)", a.list(), "a", "[]", "*")
}

func randomJSON(r *rand.Rand, deep int) string {
	if deep == 0 || r.IntN(5) == 0 {
		return pick(r, "null", "true", "false", "0", "1", "-2.5", "1e9", "0.000001", `""`, `"a"`, `"é😀"`, `"b\n\u0001"`, `"12"`, "[]", "{}", "[1,2]", `["x","y"]`)
	}
	object := r.IntN(2) == 0
	var things []string
	for range r.IntN(4) {
		thing := randomJSON(r, deep-1)
		if object {
			thing = `"` + pick(r, "a", "b", "c", "d", "e f") + `":` + thing
		}
		things = append(things, thing)
	}
	if r.IntN(12) == 0 && !object {
		things = []string{"1" + strings.Repeat(",2,3", 10+r.IntN(80))}
	}
	inside := strings.Join(things, ",")
	if object {
		return "{" + inside + "}"
	}
	return "[" + inside + "]"
}

// grown has what comes in copied again and again, so that it becomes heavy.
func grown(r *rand.Rand) string {
	return strings.Repeat(pick(r, "[@,@,@,@]|", "[@,@,@][]|", "join(to_string(@),['x','y','z'])|", "to_string([@,@])|", "{a:@,b:@,c:@}|", "@.[@,@][*].[@,@]|"), 1+r.IntN(7))
}

// checkGiven holds Eval against the plain evaluator, and answers with the error.
func checkGiven(t *testing.T, expr, text string) api.Errno {
	t.Helper()
	how, _, e := pluck.Show(expr)
	if e != api.OK {
		t.Fatalf("Show(%q): %d", expr, e)
	}
	want, wantE := reference(how, text)
	out, e := pluck.Eval(expr, text)
	if out != want || e != wantE {
		t.Errorf("%s of %.300s = %.200s, %d, want %.200s, %d", expr, text, out, e, want, wantE)
	}
	if e == api.OK && !json.Valid([]byte(out)) {
		t.Errorf("P8: %s of %.300s = %.200s, no JSON text", expr, text, out)
	}
	return e
}

func TestP5RandomQuestions(t *testing.T) {
	r := rand.New(rand.NewPCG(7, 8))
	ended := map[api.Errno]int{}
	given := map[string]int{}
	for range 60000 {
		a := &asker{r, 2 + r.IntN(10)}
		expr := a.expr()
		if r.IntN(20) == 0 {
			expr = grown(r) + expr
		}
		text := randomJSON(r, 1+r.IntN(4))
		if len(expr) > 120 || len(text) > 1000 || deepest(expr) > 12 {
			continue
		}
		e := checkGiven(t, expr, text)
		ended[e]++
		for word := range takes() {
			if e == api.OK && strings.Contains(expr, word+"(") {
				given[word]++
			}
		}
	}
	if ended[api.OK] < 20000 || ended[api.ErrType] < 2000 || ended[api.ErrLarge] < 100 {
		t.Errorf("the questions ended too much alike: %v", ended)
	}
	for word := range takes() {
		if given[word] < 100 {
			t.Errorf("with %s only %d questions were answered", word, given[word])
		}
	}
}
