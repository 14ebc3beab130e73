package pluck_test

import (
	"encoding/json"
	"math/big"
	"regexp"
	"slices"
	"strconv"
	"strings"

	"pluck/api"
)

// A second, plain evaluator, to hold Eval against: it goes through the text that
// Show tells, keeps numbers as fractions, and ends with a panic of the error.
// Its values are nil, bool, *big.Rat, []rune, []any and *members.
type members struct {
	keys   []string
	values map[string]any
}

func (m *members) set(key string, v any) {
	if _, ok := m.values[key]; !ok {
		m.keys = append(m.keys, key)
	}
	m.values[key] = v
}

func newMembers() *members { return &members{values: map[string]any{}} }

// decoded reads a JSON text by the library.
func decoded(text string) any {
	d := json.NewDecoder(strings.NewReader(text))
	d.UseNumber()
	return decode(d)
}

func decode(d *json.Decoder) any {
	token, err := d.Token()
	if err != nil {
		panic(err)
	}
	switch token := token.(type) {
	case json.Number:
		n, _ := new(big.Rat).SetString(string(token))
		return n
	case string:
		return []rune(token)
	case json.Delim:
		defer d.Token()
		if token == '[' {
			list := []any{}
			for d.More() {
				list = append(list, decode(d))
			}
			return list
		}
		object := newMembers()
		for d.More() {
			key, _ := d.Token()
			object.set(key.(string), decode(d))
		}
		return object
	}
	return token
}

func written(v any) string {
	switch v := v.(type) {
	case nil:
		return "null"
	case bool:
		return strconv.FormatBool(v)
	case *big.Rat:
		text := v.FloatString(6)
		return strings.TrimRight(strings.TrimRight(text, "0"), ".")
	case []rune:
		return writtenString(string(v))
	case []any:
		things := make([]string, len(v))
		for i := range v {
			things[i] = written(v[i])
		}
		return "[" + strings.Join(things, ",") + "]"
	}
	var things []string
	for _, key := range v.(*members).keys {
		things = append(things, writtenString(key)+":"+written(v.(*members).values[key]))
	}
	return "{" + strings.Join(things, ",") + "}"
}

func writtenString(s string) string {
	var out strings.Builder
	e := json.NewEncoder(&out)
	e.SetEscapeHTML(false)
	if err := e.Encode(s); err != nil {
		panic(err)
	}
	return strings.NewReplacer(`\u2028`, "\u2028", `\u2029`, "\u2029").Replace(strings.TrimSuffix(out.String(), "\n"))
}

func weighed(v any) int {
	weight := 1
	switch v := v.(type) {
	case []rune:
		weight += len(string(v))
	case []any:
		for _, thing := range v {
			weight += weighed(thing)
		}
	case *members:
		for key, value := range v.values {
			weight += len(key) + weighed(value)
		}
	}
	return weight
}

func bear(weight int) {
	if weight > 20000 {
		panic(api.ErrLarge)
	}
}

func isFalse(v any) bool {
	switch v := v.(type) {
	case nil:
		return true
	case bool:
		return !v
	case []rune:
		return len(v) == 0
	case []any:
		return len(v) == 0
	case *members:
		return len(v.keys) == 0
	}
	return false
}

// inOrder is a value's text with all keys sorted: two that are the same have
// the same.
func inOrder(v any) string {
	switch v := v.(type) {
	case []any:
		text := "["
		for _, thing := range v {
			text += inOrder(thing) + ","
		}
		return text
	case *members:
		text := "{"
		for _, key := range slices.Sorted(slices.Values(v.keys)) {
			text += writtenString(key) + inOrder(v.values[key]) + ","
		}
		return text
	}
	return written(v)
}

// A part is one of what Show tells: a sign or word, and what belongs to it.
type part struct {
	sign  string
	text  string
	parts []part
}

// A shown goes through the text that Show tells.
type shown struct{ text string }

func (s *shown) take(what string) bool {
	rest, ok := strings.CutPrefix(s.text, what)
	s.text = rest
	return ok
}

var (
	shownString  = regexp.MustCompile(`^"(\\.|[^"\\])*"`)
	shownLiteral = regexp.MustCompile("^`[^`]*`")
	shownSign    = regexp.MustCompile(`^\(([^ ]+) `)
	shownBracket = regexp.MustCompile(`^\[(\*|-?\d+|-?\d*:-?\d*:-?\d+|)\]`)
)

func (s *shown) match(form *regexp.Regexp) string {
	found := form.FindString(s.text)
	s.text = s.text[len(found):]
	return found
}

func (s *shown) str() string {
	var said string
	if err := json.Unmarshal([]byte(s.match(shownString)), &said); err != nil {
		panic(err)
	}
	return said
}

func (s *shown) row(closing string) []part {
	var parts []part
	for !s.take(closing) {
		s.take(" ")
		parts = append(parts, s.part())
	}
	return parts
}

func (s *shown) part() part {
	if found := s.match(shownSign); found != "" {
		return part{sign: strings.Trim(found, "( "), parts: s.row(")")}
	}
	if found := s.match(shownBracket); found != "" {
		return part{sign: "bracket", text: strings.Trim(found, "[]")}
	}
	if found := s.match(shownLiteral); found != "" {
		return part{sign: "literal", text: strings.Trim(found, "`")}
	}
	switch {
	case s.take("[? "):
		return part{sign: "filter", parts: s.row("]")}
	case s.take("["):
		return part{sign: "list", parts: s.row("]")}
	case s.take("{"):
		all := part{sign: "object"}
		for !s.take("}") {
			s.take(" ")
			key := s.str()
			s.take(" ")
			all.parts = append(all.parts, part{text: key, parts: []part{s.part()}})
		}
		return all
	case s.take("."):
		return part{sign: "name", text: s.str()}
	case s.take("@"):
		return part{sign: "@"}
	case s.take("*"):
		return part{sign: "*"}
	}
	return part{sign: "raw", text: s.str()}
}
