// Package token: the text of an expression, cut into tokens.
package token

import (
	"errors"
	"strconv"
	"strings"
	"unicode/utf8"

	"pluck/fault"
	"pluck/reader"
	"pluck/value"
)

type Kind int

const (
	None Kind = iota // what begins no token
	End
	Sign
	Word
	Quoted
	Raw
	Literal
	Whole
)

const (
	shortSigns = ".*[](){},:@&|!<>?"
	mostDigits = 6
)

type Token struct {
	Kind  Kind
	Place int
	Text  string // a Sign or Word as it stands, what a Quoted or Raw says
	Whole int
	Value value.Value // of a Literal that is not Large
	Large bool        // of a Literal: one of its numbers is none
}

// Cut is all tokens of the text. The last one alone is the End, or a None:
// since that can stand nowhere, what is behind it is never asked for.
func Cut(text string) []Token {
	var tokens []Token
	at := 0
	for {
		at += blanks(text[at:])
		t, size := first(text[at:])
		t.Place = at
		tokens = append(tokens, t)
		if t.Kind == None || t.Kind == End {
			return tokens
		}
		at += size
	}
}

func blanks(text string) int { return len(text) - len(strings.TrimLeft(text, "\t\n\r ")) }

// first is the token that the text begins with, and how many bytes it has.
func first(text string) (Token, int) {
	if text == "" {
		return Token{Kind: End}, 0
	}
	switch b := text[0]; {
	case isLetter(b):
		return word(text)
	case isDigit(b), b == '-':
		return whole(text)
	case b == '"':
		return quoted(text)
	case b == '\'':
		return raw(text)
	case b == '`':
		return literal(text)
	}
	return sign(text)
}

func isLetter(b byte) bool { return 'a' <= b && b <= 'z' || 'A' <= b && b <= 'Z' || b == '_' }

func isDigit(b byte) bool { return '0' <= b && b <= '9' }

func word(text string) (Token, int) {
	size := 1
	for size < len(text) && (isLetter(text[size]) || isDigit(text[size])) {
		size++
	}
	return Token{Kind: Word, Text: text[:size]}, size
}

func whole(text string) (Token, int) {
	unsigned := strings.TrimPrefix(text, "-")
	digits := 0
	for digits < len(unsigned) && isDigit(unsigned[digits]) {
		digits++
	}
	if digits == 0 || digits > mostDigits || digits > 1 && unsigned[0] == '0' {
		return Token{}, 0
	}
	size := len(text) - len(unsigned) + digits
	// So few digits alone are always a number.
	n, _ := strconv.Atoi(text[:size])
	return Token{Kind: Whole, Whole: n}, size
}

func quoted(text string) (Token, int) {
	s, size, err := reader.Quoted(text)
	if err != nil {
		return Token{}, 0
	}
	return Token{Kind: Quoted, Text: s}, size
}

func raw(text string) (Token, int) {
	var out []byte
	for at := 1; at < len(text); at++ {
		if text[at] == '\'' {
			return rawOf(out), at + 1
		}
		if text[at] == '\\' {
			at++
			if at == len(text) || text[at] != '\'' && text[at] != '\\' {
				break
			}
		}
		out = append(out, text[at])
	}
	return Token{}, 0
}

func rawOf(bytes []byte) Token {
	if !utf8.Valid(bytes) {
		return Token{}
	}
	return Token{Kind: Raw, Text: string(bytes)}
}

func literal(text string) (Token, int) {
	inside, _, closed := strings.Cut(text[1:], "`")
	if !closed {
		return Token{}, 0
	}
	v, err := reader.Text(inside)
	large := errors.Is(err, fault.Large)
	if err != nil && !large {
		return Token{}, 0
	}
	return Token{Kind: Literal, Value: v, Large: large}, len(inside) + 2
}

func sign(text string) (Token, int) {
	if len(text) > 1 && isLongSign(text[:2]) {
		return Token{Kind: Sign, Text: text[:2]}, 2
	}
	if strings.IndexByte(shortSigns, text[0]) < 0 {
		return Token{}, 0
	}
	return Token{Kind: Sign, Text: text[:1]}, 1
}

func isLongSign(text string) bool {
	switch text {
	case "&&", "||", "==", "!=", "<=", ">=":
		return true
	}
	return false
}
