// Package reader: JSON texts, read strictly.
package reader

import (
	"pluck/api"
	"pluck/fault"
	"pluck/value"
)

// A reader goes through a text byte by byte and passes none that cannot stand
// where it is, so that where it stops is the place that a fault tells.
type reader struct {
	text string
	at   int
	open int // brackets
	// Numbers are judged when all has been read: what is no JSON text at all
	// is told first.
	large bool
}

// Text is the value that a JSON text says.
func Text(text string) (value.Value, error) {
	if len(text) > api.MaxJSON {
		return nil, fault.Long
	}
	r := reader{text: text}
	r.blanks()
	v, err := r.value()
	if err != nil {
		return nil, err
	}
	r.blanks()
	if r.at < len(r.text) {
		return nil, r.wrong()
	}
	if r.large {
		return nil, fault.Large
	}
	return v, nil
}

func (r *reader) wrong() error { return fault.At{Place: r.at, Cause: fault.JSON} }

// peek is the next byte; at the end it is 0, which can stand nowhere either.
func (r *reader) peek() byte {
	if r.at == len(r.text) {
		return 0
	}
	return r.text[r.at]
}

// take passes the next byte if it is b.
func (r *reader) take(b byte) bool {
	if r.peek() != b {
		return false
	}
	r.at++
	return true
}

func (r *reader) blanks() {
	for r.take(' ') || r.take('\t') || r.take('\n') || r.take('\r') {
	}
}

func (r *reader) word(word string) error {
	for i := range len(word) {
		if !r.take(word[i]) {
			return r.wrong()
		}
	}
	return nil
}

func (r *reader) value() (value.Value, error) {
	switch r.peek() {
	case 'n':
		return value.Null{}, r.word("null")
	case 'f':
		return value.Bool(false), r.word("false")
	case 't':
		return value.Bool(true), r.word("true")
	case '"':
		s, err := r.quoted()
		return value.String(s), err
	case '[', '{':
		return r.nested()
	}
	return r.number()
}

func (r *reader) nested() (value.Value, error) {
	if r.open == api.MaxDepth {
		return nil, r.wrong()
	}
	r.open++
	read := r.object
	if r.peek() == '[' {
		read = r.list
	}
	r.at++
	v, err := read()
	r.open--
	return v, err
}

func (r *reader) list() (value.Value, error) {
	var list value.List
	err := r.row(']', func() error {
		v, err := r.value()
		list = append(list, v)
		return err
	})
	return list, err
}

func (r *reader) object() (value.Value, error) {
	var object value.Object
	err := r.row('}', func() error {
		key, err := r.key()
		if err != nil {
			return err
		}
		v, err := r.value()
		object = object.Put(key, v)
		return err
	})
	return object, err
}

// row reads things with commas between them, up to the byte that closes.
func (r *reader) row(closing byte, thing func() error) error {
	r.blanks()
	if r.take(closing) {
		return nil
	}
	for {
		if err := thing(); err != nil {
			return err
		}
		r.blanks()
		if r.take(closing) {
			return nil
		}
		if !r.take(',') {
			return r.wrong()
		}
		r.blanks()
	}
}

// key reads a key, its colon and the blanks around that.
func (r *reader) key() (string, error) {
	if r.peek() != '"' {
		return "", r.wrong()
	}
	key, err := r.quoted()
	if err != nil {
		return "", err
	}
	r.blanks()
	if !r.take(':') {
		return "", r.wrong()
	}
	r.blanks()
	return key, nil
}
