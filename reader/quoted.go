package reader

import (
	"strings"
	"unicode/utf8"
)

const (
	escapes = `"\/bfnrt`
	escaped = "\"\\/\b\f\n\r\t"
)

// Quoted is what the JSON string at the beginning of the text says, and how
// many bytes it has there.
func Quoted(text string) (string, int, error) {
	r := reader{text: text}
	if r.peek() != '"' {
		return "", 0, r.wrong()
	}
	s, err := r.quoted()
	if err != nil {
		return "", 0, err
	}
	return s, r.at, nil
}

func (r *reader) quoted() (string, error) {
	r.at++
	var out []byte
	for !r.take('"') {
		point, err := r.point()
		if err != nil {
			return "", err
		}
		out = utf8.AppendRune(out, point)
	}
	return string(out), nil
}

// point reads one code point of a string, as it is or escaped.
func (r *reader) point() (rune, error) {
	if r.peek() < ' ' {
		return 0, r.wrong()
	}
	if r.take('\\') {
		return r.escape()
	}
	return r.plain()
}

// plain goes through a sequence of UTF-8 by hand, since a library's decoder
// does not tell which of its bytes is the wrong one.
func (r *reader) plain() (rune, error) {
	from := r.at
	size, low, high := sequence(r.peek())
	if size == 0 {
		return 0, r.wrong()
	}
	r.at++
	for range size - 1 {
		if b := r.peek(); b < low || b > high {
			return 0, r.wrong()
		}
		r.at++
		low, high = 0x80, 0xbf
	}
	point, _ := utf8.DecodeRuneInString(r.text[from:r.at])
	return point, nil
}

// sequence tells of the first byte of a code point how many bytes that has (0:
// it can begin none), and from which to which the second one may go: so it is
// neither longer than need be, nor a surrogate, nor beyond the last.
func sequence(first byte) (size int, low, high byte) {
	switch {
	case first < 0x80:
		return 1, 0, 0
	case first < 0xc2:
		return 0, 0, 0
	case first < 0xe0:
		return 2, 0x80, 0xbf
	case first == 0xe0:
		return 3, 0xa0, 0xbf
	case first == 0xed:
		return 3, 0x80, 0x9f
	case first < 0xf0:
		return 3, 0x80, 0xbf
	case first == 0xf0:
		return 4, 0x90, 0xbf
	case first < 0xf4:
		return 4, 0x80, 0xbf
	case first == 0xf4:
		return 4, 0x80, 0x8f
	}
	return 0, 0, 0
}

func (r *reader) escape() (rune, error) {
	if r.take('u') {
		return r.hexPoint()
	}
	at := strings.IndexByte(escapes, r.peek())
	if at < 0 {
		return 0, r.wrong()
	}
	r.at++
	return rune(escaped[at]), nil
}

// hexPoint reads what is behind \u, with the second escape of a pair.
func (r *reader) hexPoint() (rune, error) {
	first, err := r.unit(false)
	if err != nil || first>>10 != 0xd800>>10 {
		return first, err
	}
	if err := r.word(`\u`); err != nil {
		return 0, err
	}
	second, err := r.unit(true)
	return 0x10000 + (first-0xd800)<<10 + (second - 0xdc00), err
}

// unit reads four hex digits: a low surrogate if that is asked for, else none.
// Of a low surrogate the first two digits are dc to df.
func (r *reader) unit(low bool) (rune, error) {
	var unit rune
	for i := range 4 {
		digit := strings.IndexByte("0123456789abcdef", lower(r.peek()))
		if digit < 0 || i == 0 && low && digit != 0xd {
			return 0, r.wrong()
		}
		unit = unit<<4 | rune(digit)
		if i == 1 && (unit>>2 == 0xdc>>2) != low {
			return 0, r.wrong()
		}
		r.at++
	}
	return unit, nil
}

func lower(b byte) byte {
	if 'A' <= b && b <= 'Z' {
		return b + 'a' - 'A'
	}
	return b
}
