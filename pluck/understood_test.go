package pluck_test

import (
	"math/rand/v2"
	"strings"
	"testing"

	"pluck/pluck"
)

// A made is an expression together with how it must be understood.
type made struct {
	text, shown string
	step        bool // brackets around it leave a chain
}

// A maker makes expressions out of the grammar's rules. What it has left to
// spend keeps them short.
type maker struct {
	r    *rand.Rand
	left int
}

func (m *maker) spend() bool {
	m.left--
	return m.left > 0
}

func (m *maker) blank() string { return blank(m.r) }

// spaced has blanks around and between the tokens.
func (m *maker) spaced(tokens ...string) string {
	text := m.blank()
	for _, token := range tokens {
		text += token + m.blank()
	}
	return text
}

func (m *maker) pairs(sign string, part func() made) made {
	all := part()
	for m.r.IntN(4) == 0 && m.spend() {
		right := part()
		all = made{all.text + sign + right.text, "(" + sign + " " + all.shown + " " + right.shown + ")", false}
	}
	return all
}

func (m *maker) expr() made { return m.pairs("|", m.or) }

func (m *maker) or() made { return m.pairs("||", m.and) }

func (m *maker) and() made { return m.pairs("&&", m.not) }

func (m *maker) not() made {
	if m.r.IntN(6) == 0 && m.spend() {
		of := m.not()
		return made{m.spaced("!") + of.text, "(! " + of.shown + ")", false}
	}
	left := m.chain()
	if m.r.IntN(5) > 0 || !m.spend() {
		return left
	}
	sign := pick(m.r, "==", "!=", "<", "<=", ">", ">=")
	right := m.chain()
	return made{left.text + sign + right.text, "(" + sign + " " + left.shown + " " + right.shown + ")", false}
}

func (m *maker) chain() made {
	all := m.first()
	shown := ""
	for m.r.IntN(3) == 0 && m.spend() {
		step := m.bracket()
		if m.r.IntN(2) == 0 {
			step = m.behindPoint()
			step.text = m.spaced(".") + step.text
		}
		all.text += step.text
		shown += " " + step.shown
	}
	if shown == "" {
		return all
	}
	return made{all.text, "(. " + all.shown + shown + ")", false}
}

func (m *maker) first() made {
	if !m.spend() {
		return made{"@", "@", false}
	}
	switch m.r.IntN(8) {
	case 0:
		return made{m.spaced("@"), "@", false}
	case 1:
		return made{m.spaced("'a\\'\\\\\n'"), `"a'\\\n"`, false}
	case 2:
		return made{m.spaced("` [1.0, null] `"), "`[1,null]`", false}
	case 3:
		return m.inBrackets()
	case 4:
		return m.bracket()
	}
	return m.behindPoint()
}

func (m *maker) inBrackets() made {
	inside := m.expr()
	text := m.spaced("(") + inside.text + m.spaced(")")
	if inside.step {
		return made{text, "(. " + inside.shown + ")", false}
	}
	return made{text, inside.shown, false}
}

func (m *maker) name() (text, shown string) {
	if m.r.IntN(3) == 0 {
		return m.spaced(`"b\u0063\/"`), `"bc/"`
	}
	return m.spaced("_a9"), `"_a9"`
}

func (m *maker) behindPoint() made {
	switch m.r.IntN(8) {
	case 0:
		return made{m.spaced("*"), "*", true}
	case 1:
		return m.call()
	case 2:
		return m.list()
	case 3:
		return m.object()
	}
	text, shown := m.name()
	return made{text, "." + shown, false}
}

func (m *maker) call() made {
	if m.r.IntN(2) == 0 {
		by, list := m.expr(), m.expr()
		return made{m.spaced("map", "(", "&") + by.text + "," + list.text + m.spaced(")"), "(map (& " + by.shown + ") " + list.shown + ")", false}
	}
	args := m.row(m.expr)
	return made{m.spaced("merge", "(") + args.text + m.spaced(")"), "(merge " + args.shown + ")", false}
}

func (m *maker) row(thing func() made) made {
	all := thing()
	for m.r.IntN(3) == 0 && m.spend() {
		more := thing()
		all = made{all.text + "," + more.text, all.shown + " " + more.shown, false}
	}
	return all
}

func (m *maker) list() made {
	// Alone in the list a `*` could be meant as a bracket.
	first := m.row(m.expr)
	if first.step {
		first = made{first.text + ",@", first.shown + " @", false}
	}
	return made{m.spaced("[") + first.text + m.spaced("]"), "[" + first.shown + "]", false}
}

func (m *maker) object() made {
	members := m.row(func() made {
		text, shown := m.name()
		of := m.expr()
		return made{text + ":" + of.text, shown + " " + of.shown, false}
	})
	return made{m.spaced("{") + members.text + m.spaced("}"), "{" + members.shown + "}", false}
}

func (m *maker) bracket() made {
	switch m.r.IntN(6) {
	case 0:
		return made{m.spaced("[", "*", "]"), "[*]", true}
	case 1:
		return made{m.spaced("[", "]"), "[]", true}
	case 2:
		by := m.expr()
		return made{m.spaced("[", "?") + by.text + m.spaced("]"), "[? " + by.shown + "]", true}
	case 3:
		at := pick(m.r, "0", "7", "-1", "-123456")
		return made{m.spaced("[", at, "]"), "[" + at + "]", true}
	}
	from, to, by := pick(m.r, "", "2", "-3"), pick(m.r, "", "0", "-1"), pick(m.r, "", "1", "-2")
	tokens := []string{"[", from, ":", to, ":", by, "]"}
	if by == "" {
		by = "1"
		if m.r.IntN(2) == 0 {
			tokens = []string{"[", from, ":", to, "]"}
		}
	}
	return made{m.spaced(tokens...), "[" + from + ":" + to + ":" + by + "]", true}
}

// deepest may count too much, since a `!` is not over at a known byte.
func deepest(text string) int {
	deep, most := 0, 0
	for _, c := range text {
		switch c {
		case '(', '[', '{', '!':
			deep++
		case ')', ']', '}':
			deep--
		}
		most = max(most, deep)
	}
	return most
}

func TestP4RandomExpressions(t *testing.T) {
	r := rand.New(rand.NewPCG(5, 6))
	read := 0
	for range 20000 {
		m := &maker{r, 3 + r.IntN(12)}
		e := m.expr()
		if len(e.text) > 120 || deepest(e.text) > 12 {
			continue
		}
		read++
		wantShown(t, e.text, e.shown)
		// The blanks that it is made with stand between tokens, but for some
		// in a RAW or LITERAL.
		if tight := strings.NewReplacer("` [1.0, null] `", "`[1,null]`", "\\\\\n'", "\\\\\n'", " ", "", "\n", "", "\t", "", "\r", "").Replace(e.text); len(tight) < len(e.text) {
			if out, _, _ := pluck.Show(tight); out != e.shown {
				t.Errorf("Show(%q) = %q, but of %q it is %q", tight, out, e.text, e.shown)
			}
		}
	}
	if read < 8000 {
		t.Errorf("only %d expressions were short enough", read)
	}
}
