// Package tree: an expression as it is understood.
package tree

import "pluck/value"

// A Node is one of the types below.
type Node interface {
	// show appends how the part is told.
	show(out []byte) []byte
}

// A Pair is two expressions with a sign between them.
type Pair struct {
	Sign        string
	Left, Right Node
}

type Not struct{ Of Node }

// A Chain has no steps only where brackets around its first thing make that a
// thing by itself.
type Chain struct {
	First Node
	Steps []Node
}

type Name string

type Current struct{}

type Raw string

type Literal struct{ Value value.Value }

type Call struct {
	Word  string
	Place int
	Args  []Node
}

// An Expression is an arg that is not reckoned ahead of the call.
type Expression struct{ Of Node }

type List []Node

// An Object may have a key twice: both are reckoned.
type Object []Member

type Member struct {
	Key string
	Of  Node
}

// Values is `*`.
type Values struct{}

type Index int

type Slice struct {
	From, To Bound
	By       int
}

// A Bound may be left out.
type Bound struct {
	There bool
	At    int
}

// Things is `[*]`.
type Things struct{}

// Flat is `[]`.
type Flat struct{}

// Filter is `[?e]`.
type Filter struct{ By Node }
