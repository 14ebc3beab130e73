package pluck_test

import (
	"bytes"
	"encoding/json"
	"math/big"
	"math/rand/v2"
	"reflect"
	"regexp"
	"strings"
	"testing"
	"unicode/utf8"

	"pluck/api"
	"pluck/pluck"
)

var (
	aString  = regexp.MustCompile(`(?s)"(\\.|[^"\\])*"`)
	aNumber  = regexp.MustCompile(`-?[0-9][0-9.eE+-]*`)
	inOneWay = regexp.MustCompile(`^([][{}:,]|null|true|false|0|-?[1-9][0-9]*|-?(0|[1-9][0-9]*)[.][0-9]{0,5}[1-9]|"(\\["\\bfnrt]|\\u00[01][0-9a-f]|[^\x00-\x1f"\\])*")*$`)
	anEscape = regexp.MustCompile(`(?i)\\ud[89ab]..\\ud[c-f]..|\\ud[89a-f]..|\\.`)
)

// isText asks the library, and what the document asks beyond that, whether this
// is a JSON text of any length.
func isText(s string) bool {
	return json.Valid([]byte(s)) && utf8.ValidString(s) && depth(s) <= api.MaxDepth && paired(s)
}

func depth(s string) int {
	open, most := 0, 0
	for _, c := range aString.ReplaceAllString(s, "") {
		switch c {
		case '[', '{':
			open++
		case ']', '}':
			open--
		}
		most = max(most, open)
	}
	return most
}

func paired(s string) bool {
	for _, escape := range anEscape.FindAllString(s, -1) {
		if len(escape) == len(`\ud800`) {
			return false
		}
	}
	return true
}

// begins asks the program whether a JSON text begins with s.
func begins(s string) bool {
	_, at, e := pluck.Compact(s)
	return e != api.ErrJSON || at == len(s)
}

// completed goes on from s with bytes that the program lets stand, to a text.
func completed(s string) (string, bool) {
	for range 100 {
		if isText(s) {
			return s, true
		}
		next := ""
		for _, b := range []byte("\"]}:0aelrsu\\d\x80\x90\xa0c") {
			if begins(s + string([]byte{b})) {
				next = string([]byte{b})
				break
			}
		}
		if next == "" {
			return s, false
		}
		s += next
	}
	return s, false
}

// check holds one answer against the words of P3, and of P1 on errors.
func check(t *testing.T, s string) {
	t.Helper()
	out, at, e := pluck.Compact(s)
	switch e {
	case api.OK, api.ErrLarge:
		if !isText(s) {
			t.Errorf("Compact(%q) = %q, error %d, of what is no JSON text", s, out, e)
		}
		if at != 0 || (out == "") != (e == api.ErrLarge) {
			t.Errorf("Compact(%q) = %q, %d, %d", s, out, at, e)
		}
	case api.ErrJSON:
		if isText(s) {
			t.Errorf("Compact(%q) = ErrJSON at %d of a JSON text", s, at)
		}
		if out != "" || at < 0 || at > len(s) {
			t.Fatalf("Compact(%q) = %q, %d, ErrJSON", s, out, at)
		}
		if whole, ok := completed(s[:at]); !ok {
			t.Errorf("Compact(%q) = ErrJSON at %d, but a fault is ahead of that (tried: %q)", s, at, whole)
		}
	default:
		t.Errorf("Compact(%q) = error %d", s, e)
	}
	if isText(s) {
		for i := range len(s) {
			if !begins(s[:i]) {
				t.Errorf("Compact(%q) tells a fault in what a JSON text begins with", s[:i])
			}
		}
	}
}

func TestP3AllShortTexts(t *testing.T) {
	// In each row bytes that could follow one another.
	for _, bytes := range []string{"01-+.eE ,[]", "{}\"a:, 1[]\\", "\"\\u0dDcC8g"} {
		most := 6
		short := []string{""}
		for range most {
			var longer []string
			for _, s := range short {
				check(t, s)
				for _, b := range []byte(bytes) {
					longer = append(longer, s+string([]byte{b}))
				}
			}
			// What goes on from a fault has the same fault.
			short = nil
			for _, s := range longer {
				if begins(s) {
					short = append(short, s)
				} else {
					check(t, s)
				}
			}
		}
	}
}

func TestP3AllPairsOfBytesInAString(t *testing.T) {
	for a := range 256 {
		for b := range 256 {
			check(t, string([]byte{'"', byte(a), byte(b), '"'}))
			check(t, string([]byte{'"', byte(a), byte(b), 0x80, '"'}))
			check(t, string([]byte{'"', byte(a), byte(b), 0xbf, 0xbf, '"'}))
		}
	}
}

func pick(r *rand.Rand, of ...string) string { return of[r.IntN(len(of))] }

func blank(r *rand.Rand) string { return pick(r, "", "", "", " ", "\n", "\t\r") }

func randomString(r *rand.Rand) string {
	s := `"`
	for range r.IntN(4) {
		s += pick(r, "a", "b", "é", "€", "😀", `\n`, `\"`, `\\`, `\/`, `\u0061`, `\u001F`, `\ud83d\ude00`, `\uDBFF\uDFFF`, `\ud7Ff`, "\x7f", "\ufeff")
	}
	return s + `"`
}

func randomNumber(r *rand.Rand) string {
	return pick(r, "", "-") + pick(r, "0", "1", "20", "999999999", "1000000000", "300000000000") +
		pick(r, "", "", ".0", ".5", ".000001", ".00000010", ".123456") + pick(r, "", "", "e0", "E1", "e+03", "e-2", "e-09", "E-400")
}

func randomText(r *rand.Rand, deep int) string {
	if deep == 0 {
		return pick(r, "null", "true", "false", randomString(r), randomNumber(r), "[]", "{}")
	}
	var things []string
	object := r.IntN(2) == 0
	for range r.IntN(4) {
		thing := blank(r) + randomText(r, r.IntN(deep)) + blank(r)
		if object {
			thing = blank(r) + randomString(r) + blank(r) + ":" + thing
		}
		things = append(things, thing)
	}
	inside := strings.Join(things, ",")
	if inside == "" {
		inside = blank(r)
	}
	if object {
		return "{" + inside + "}"
	}
	return "[" + inside + "]"
}

// broken is s with one byte changed, left out or put in.
func broken(r *rand.Rand, s string) string {
	i := r.IntN(len(s))
	b := pick(r, "[", "]", "{", "}", "\"", "\\", ",", ":", "0", "-", ".", "e", "u", "d", " ", "\x00", "\x80", "\xed", "\xf4", "x")
	switch r.IntN(3) {
	case 0:
		return s[:i] + b + s[i+1:]
	case 1:
		return s[:i] + b + s[i:]
	}
	return s[:i] + s[i+1:]
}

// said is what the library reads, with numbers that are exact.
func said(t *testing.T, s string) any {
	t.Helper()
	decoder := json.NewDecoder(bytes.NewReader([]byte(s)))
	decoder.UseNumber()
	var v any
	if err := decoder.Decode(&v); err != nil {
		t.Fatalf("%q: %v", s, err)
	}
	return exactly(v)
}

func exactly(v any) any {
	switch v := v.(type) {
	case json.Number:
		n, _ := new(big.Rat).SetString(string(v))
		return n.RatString()
	case []any:
		for i := range v {
			v[i] = exactly(v[i])
		}
	case map[string]any:
		for key := range v {
			v[key] = exactly(v[key])
		}
	}
	return v
}

// fits tells whether all numbers of a text are whole millionths, none too great.
func fits(s string) bool {
	most := big.NewRat(1000000000, 1)
	for _, text := range aNumber.FindAllString(aString.ReplaceAllString(s, ""), -1) {
		n, _ := new(big.Rat).SetString(text)
		if new(big.Rat).Abs(n).Cmp(most) > 0 || !n.Mul(n, big.NewRat(1000000, 1)).IsInt() {
			return false
		}
	}
	return true
}

func TestP3RandomTexts(t *testing.T) {
	r := rand.New(rand.NewPCG(1, 2))
	read := 0
	for range 4000 {
		s := blank(r) + randomText(r, r.IntN(5)) + blank(r)
		if len(s) > 900 {
			continue
		}
		check(t, s)
		check(t, broken(r, s))
		out, _, e := pluck.Compact(s)
		if (e == api.OK) != fits(s) {
			t.Errorf("Compact(%q) = error %d", s, e)
		}
		if e != api.OK {
			continue
		}
		read++
		if want, got := said(t, s), said(t, out); !reflect.DeepEqual(got, want) {
			t.Errorf("Compact(%q) = %q: another value", s, out)
		}
		wantText(t, out, out)
		if !inOneWay.MatchString(out) {
			t.Errorf("Compact(%q) = %q: not written in one way", s, out)
		}
	}
	if read < 1000 {
		t.Errorf("only %d texts were read", read)
	}
}
