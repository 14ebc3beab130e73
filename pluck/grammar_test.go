package pluck_test

import (
	"math/rand/v2"
	"slices"
	"strings"
	"testing"

	"pluck/api"
	"pluck/pluck"
)

// grammar is that of the document: a rule a line, with rules of their own for
// what may be repeated or left out. BY is a WHOLE that is not 0.
const grammar = `
expr = or
expr = expr | or
or = and
or = or || and
and = not
and = and && not
not = ! not
not = comparison
comparison = chain
comparison = chain compare chain
compare = ==
compare = !=
compare = <
compare = <=
compare = >
compare = >=
chain = first
chain = chain step
first = name
first = @
first = *
first = RAW
first = LITERAL
first = call
first = ( expr )
first = list
first = object
first = bracket
name = WORD
name = QUOTED
call = WORD ( )
call = WORD ( args )
args = arg
args = args , arg
arg = expr
arg = & expr
list = [ exprs ]
exprs = expr
exprs = exprs , expr
object = { members }
members = member
members = members , member
member = name : expr
step = . name
step = . *
step = . call
step = . list
step = . object
step = bracket
bracket = [ WHOLE ]
bracket = [ whole : whole ]
bracket = [ whole : whole : by ]
whole =
whole = WHOLE
by =
by = BY
bracket = [ * ]
bracket = [ ]
bracket = [ ? expr ]
`

type rule struct {
	left  string
	right []string
}

func rules() []rule {
	var all []rule
	for _, line := range strings.Split(strings.TrimSpace(grammar), "\n") {
		parts := strings.Fields(line)
		all = append(all, rule{parts[0], parts[2:]})
	}
	return all
}

// isTerminal tells a token of the grammar from a part of it.
func isTerminal(symbol string) bool { return symbol[0] < 'a' || symbol[0] > 'z' }

func matches(terminal, token string) bool {
	switch terminal {
	case "WORD":
		return token == "a" || token == "type"
	case "QUOTED":
		return token[0] == '"'
	case "RAW":
		return token[0] == '\''
	case "LITERAL":
		return token[0] == '`'
	case "WHOLE":
		return strings.Trim(token, "-0123456789") == ""
	case "BY":
		return token != "0" && matches("WHOLE", token)
	}
	return terminal == token
}

// An item is a rule of which the parts ahead of dot have been seen, from a place
// among the tokens on.
type item struct {
	rule, dot, from int
}

// A chart has for each place among the tokens the items that hold there
// (Earley's way): unlike the program it tries all rules at the same time.
type chart struct {
	rules []rule
	sets  [][]item
}

func newChart() *chart {
	c := &chart{rules: rules()}
	c.sets = [][]item{c.closed(c.predicted("expr", 0), 0)}
	return c
}

func (c *chart) predicted(left string, from int) []item {
	var items []item
	for i, r := range c.rules {
		if r.left == left {
			items = append(items, item{i, 0, from})
		}
	}
	return items
}

func (c *chart) next(i item) string {
	if r := c.rules[i.rule]; i.dot < len(r.right) {
		return r.right[i.dot]
	}
	return ""
}

// closed adds to a set all that follows from it at its place.
func (c *chart) closed(set []item, place int) []item {
	for changed := true; changed; {
		changed = false
		add := func(more item) {
			if !slices.Contains(set, more) {
				set = append(set, more)
				changed = true
			}
		}
		for i := 0; i < len(set); i++ {
			next := c.next(set[i])
			if next == "" {
				origin := set
				if set[i].from < place {
					origin = c.sets[set[i].from]
				}
				for _, waiting := range origin {
					if c.next(waiting) == c.rules[set[i].rule].left {
						add(item{waiting.rule, waiting.dot + 1, waiting.from})
					}
				}
			} else if !isTerminal(next) {
				for _, more := range c.predicted(next, place) {
					add(more)
				}
			}
		}
	}
	return set
}

// push goes on by one token, if that can stand there.
func (c *chart) push(token string) bool {
	var set []item
	for _, i := range c.sets[len(c.sets)-1] {
		if next := c.next(i); next != "" && isTerminal(next) && matches(next, token) {
			set = append(set, item{i.rule, i.dot + 1, i.from})
		}
	}
	if set == nil {
		return false
	}
	c.sets = append(c.sets, c.closed(set, len(c.sets)))
	return true
}

func (c *chart) pop() { c.sets = c.sets[:len(c.sets)-1] }

// whole tells whether the tokens so far are an expression.
func (c *chart) whole() bool {
	return slices.ContainsFunc(c.sets[len(c.sets)-1], func(i item) bool {
		return i.from == 0 && c.rules[i.rule].left == "expr" && c.next(i) == ""
	})
}

// allTokens has signs that stand for others of their sort, and one that is none.
func allTokens() []string {
	return strings.Fields("a type \"q\" 'r' `1` 0 -2 . * [ ] ( ) { } , : @ & && | || ! == < ? #")
}

func checkWhole(t *testing.T, c *chart, text string) {
	t.Helper()
	out, at, e := pluck.Show(text)
	if c.whole() {
		if e == api.ErrSyntax || e == api.ErrLong || e == api.ErrLarge || (out == "") != (e != api.OK) {
			t.Errorf("Show(%q) = %q, %d, %d of an expression", text, out, at, e)
		}
	} else if out != "" || at != len(text) || e != api.ErrSyntax {
		t.Errorf("Show(%q) = %q, %d, %d, want ErrSyntax at the end, %d", text, out, at, e, len(text))
	}
}

// checkGrowing holds against the grammar all rows of tokens that go on from text
// by at most so many.
func checkGrowing(t *testing.T, c *chart, text string, more int) {
	checkWhole(t, c, text)
	if more == 0 || t.Failed() {
		return
	}
	for _, token := range allTokens() {
		longer := text + " " + token
		if c.push(token) {
			checkGrowing(t, c, longer, more-1)
			c.pop()
			continue
		}
		wantNone(t, longer, len(text)+1)
		wantNone(t, longer+" ]", len(text)+1)
	}
}

func TestP4AllShortRowsOfTokens(t *testing.T) {
	checkGrowing(t, newChart(), "", 4)
	for _, beginning := range []string{"a [", "[ *", "a . [", "[ 0 :", "type ( a", "{ a :", "( * )"} {
		c := newChart()
		for _, token := range strings.Fields(beginning) {
			if !c.push(token) {
				t.Fatalf("%q cannot stand in %q", token, beginning)
			}
		}
		checkGrowing(t, c, beginning, 3)
	}
}

// A long row of tokens, each of which can stand there, and then one that cannot.
func TestP4RandomRowsOfTokens(t *testing.T) {
	r := rand.New(rand.NewPCG(3, 4))
	tokens := allTokens()
	for range 1500 {
		c := newChart()
		text := blank(r)
		for deep := 0; len(text) < 110 && deep <= 12; {
			token := tokens[r.IntN(len(tokens))]
			if !c.push(token) {
				if r.IntN(10) == 0 {
					wantNone(t, text+token, len(text))
				}
				continue
			}
			if strings.Contains("([{!", token) {
				deep++
			}
			if deep > 12 {
				break
			}
			text += token + pick(r, " ", " ", "\n", "\t\r ")
			checkWhole(t, c, text)
		}
	}
}
