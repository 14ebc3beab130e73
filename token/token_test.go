package token

import (
	"reflect"
	"strings"
	"testing"

	"pluck/value"
)

func TestCut(t *testing.T) {
	for text, want := range map[string][]Token{
		"":            {{Kind: End}},
		" \t\n\r":     {{Kind: End, Place: 4}},
		"#":           {{Kind: None}},
		"a #b":        {{Kind: Word, Text: "a"}, {Kind: None, Place: 2}},
		" a1_.b":      {{Kind: Word, Place: 1, Text: "a1_"}, {Kind: Sign, Place: 4, Text: "."}, {Kind: Word, Place: 5, Text: "b"}, {Kind: End, Place: 6}},
		`"\u0061b"c`:  {{Kind: Quoted, Text: "ab"}, {Kind: Word, Place: 9, Text: "c"}, {Kind: End, Place: 10}},
		`"a`:          {{Kind: None}},
		`'\'\\"'.`:    {{Kind: Raw, Text: `'\"`}, {Kind: Sign, Place: 7, Text: "."}, {Kind: End, Place: 8}},
		`a '\x'`:      {{Kind: Word, Text: "a"}, {Kind: None, Place: 2}},
		"'\xff' a":    {{Kind: None}},
		"` 1.5 `@":    {{Kind: Literal, Value: value.Number(1500000)}, {Kind: Sign, Place: 7, Text: "@"}, {Kind: End, Place: 8}},
		"`1e10` a":    {{Kind: Literal, Large: true}, {Kind: Word, Place: 7, Text: "a"}, {Kind: End, Place: 8}},
		"`[1,]`":      {{Kind: None}},
		"-12 0":       {{Kind: Whole, Whole: -12}, {Kind: Whole, Place: 4}, {Kind: End, Place: 5}},
		"999999a":     {{Kind: Whole, Whole: 999999}, {Kind: Word, Place: 6, Text: "a"}, {Kind: End, Place: 7}},
		"-0-1":        {{Kind: Whole}, {Kind: Whole, Place: 2, Whole: -1}, {Kind: End, Place: 4}},
		"01":          {{Kind: None}},
		"1234567":     {{Kind: None}},
		"-a":          {{Kind: None}},
		"|||":         {{Kind: Sign, Text: "||"}, {Kind: Sign, Place: 2, Text: "|"}, {Kind: End, Place: 3}},
		"!==":         {{Kind: Sign, Text: "!="}, {Kind: None, Place: 2}},
		"<>=":         {{Kind: Sign, Text: "<"}, {Kind: Sign, Place: 1, Text: ">="}, {Kind: End, Place: 3}},
		"& &&":        {{Kind: Sign, Text: "&"}, {Kind: Sign, Place: 2, Text: "&&"}, {Kind: End, Place: 4}},
		"\xc3\xa9 a":  {{Kind: None}},
		"a\x00":       {{Kind: Word, Text: "a"}, {Kind: None, Place: 1}},
		"`\"`\"` | b": {{Kind: None}},
	} {
		if got := Cut(text); !reflect.DeepEqual(got, want) {
			t.Errorf("Cut(%q) = %v, want %v", text, got, want)
		}
	}
}

func TestCutSigns(t *testing.T) {
	for _, sign := range []string{".", "*", "[", "]", "(", ")", "{", "}", ",", ":", "@", "&", "&&", "|", "||", "!", "==", "!=", "<", "<=", ">", ">=", "?"} {
		want := []Token{{Kind: Sign, Text: sign}, {Kind: Word, Place: len(sign), Text: "a"}, {Kind: End, Place: len(sign) + 1}}
		if got := Cut(sign + "a"); !reflect.DeepEqual(got, want) {
			t.Errorf("Cut(%q) = %v", sign+"a", got)
		}
	}
	for b := range 256 {
		text := string([]byte{byte(b)})
		kind := Cut(text)[0].Kind
		want := None
		switch {
		case isLetter(byte(b)):
			want = Word
		case isDigit(byte(b)):
			want = Whole
		case b == 9, b == 10, b == 13, b == 32:
			want = End
		case b < 128 && b > 32 && !strings.ContainsRune("\"#$%'+-/;=\\^`~\x7f", rune(b)):
			want = Sign
		}
		if kind != want {
			t.Errorf("Cut(%q) is of the kind %d, want %d", text, kind, want)
		}
	}
}
