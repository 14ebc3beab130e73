package pluck_test

import (
	"encoding/json"
	"math/rand/v2"
	"regexp"
	"slices"
	"strings"
	"testing"

	"pluck/api"
	"pluck/pluck"
)

var (
	allBlanks = regexp.MustCompile(`^[\t\n\r ]*`)
	aText     = regexp.MustCompile(`(?s)^(?:[0-9-][0-9+.eE-]*|null|true|false|"(?:\\.|[^"\\])*")`)
)

// extent is how many bytes the text has that the input begins with: 0, if none
// can begin so.
func extent(input string) int {
	if input[0] != '[' && input[0] != '{' {
		return len(aText.FindString(input))
	}
	open := 0
	for at := 0; at < len(input); at++ {
		switch input[at] {
		case '[', '{':
			open++
		case ']', '}':
			open--
		case '"':
			at += max(len(aText.FindString(input[at:]))-1, 0)
		}
		if open == 0 {
			return at + 1
		}
	}
	return len(input)
}

// secondRun is a plain Run, made of Compact, Show and Eval: of args that are
// options and then one expression.
func secondRun(words []string, input string) (string, int) {
	expr := words[len(words)-1]
	if _, _, e := pluck.Show(expr); e != api.OK {
		return "", 1
	}
	out := ""
	for {
		input = input[len(allBlanks.FindString(input)):]
		if input == "" {
			return out, 0
		}
		size := extent(input)
		if _, _, e := pluck.Compact(input[:size]); e != api.OK {
			return out, 3
		}
		line, e := pluck.Eval(expr, input[:size])
		if e != api.OK {
			return out, 4
		}
		input = input[size:]
		if line == "null" && slices.Contains(words[:len(words)-1], "-n") {
			continue
		}
		if line[0] == '"' && slices.Contains(words[:len(words)-1], "-u") {
			json.Unmarshal([]byte(line), &line)
		}
		out += line + "\n"
	}
}

// checkRun holds Run against it, and answers with the status.
func checkRun(t *testing.T, words []string, input string) int {
	t.Helper()
	want, wantStatus := secondRun(words, input)
	out, status := pluck.Run(words, input)
	if out != want || status != wantStatus {
		t.Errorf("Run(%q, %.300q) = %.300q, %d, want %.300q, %d", words, input, out, status, want, wantStatus)
	}
	return status
}

func randomArgs(r *rand.Rand) []string {
	var words []string
	for range r.IntN(3) {
		words = append(words, pick(r, "-u", "-n"))
	}
	if r.IntN(4) == 0 {
		words = append(words, "--")
	}
	a := &asker{r, 1 + r.IntN(6)}
	return append(words, a.expr())
}

func randomInput(r *rand.Rand) string {
	var input strings.Builder
	for range r.IntN(6) {
		text := pick(r, randomText(r, r.IntN(4)), randomJSON(r, r.IntN(4)), randomJSON(r, 0))
		if r.IntN(12) == 0 {
			text = broken(r, text)
		}
		input.WriteString(text + pick(r, "", " ", "\n", " \t\r\n"))
	}
	return input.String()
}

func TestP9RandomRuns(t *testing.T) {
	r := rand.New(rand.NewPCG(9, 10))
	ended := map[int]int{}
	for range 30000 {
		words, input := randomArgs(r), randomInput(r)
		if len(input) <= 4000 {
			ended[checkRun(t, words, input)]++
		}
	}
	if ended[0] < 5000 || ended[3] < 5000 || ended[4] < 1000 {
		t.Errorf("the runs ended too much alike: %v", ended)
	}
}

// All short rows of parts that texts are made of, touching.
func TestP9AllShortRows(t *testing.T) {
	parts := []string{"1", "0", "-", "+", ".", "e", "[", "]", "{", "}", "\"", "\\", ",", ":", " ", "null", "tru", "x", "\"a\"", "[]"}
	rows := []string{""}
	for range 4 {
		var longer []string
		for _, row := range rows {
			for _, part := range parts {
				longer = append(longer, row+part)
				checkRun(t, []string{"-u", "@"}, row+part)
			}
		}
		rows = longer
	}
}
