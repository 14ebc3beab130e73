package function

import (
	"slices"
	"testing"
)

func TestFind(t *testing.T) {
	for _, row := range table() {
		if f, ok := Find(row.word); !ok || f != row {
			t.Errorf("Find(%q) = %v, %t", row.word, f, ok)
		}
	}
	for _, word := range []string{"", "f", "Abs", "abs ", "max_", "by"} {
		if f, ok := Find(word); ok {
			t.Errorf("Find(%q) = %v", word, f)
		}
	}
}

func TestTableHasEachFunctionOnce(t *testing.T) {
	var words []string
	for _, row := range table() {
		words = append(words, row.word)
	}
	if len(words) != 26 || !slices.IsSorted(words) || len(slices.Compact(words)) != 26 {
		t.Errorf("the functions are %v", words)
	}
}

func TestTakes(t *testing.T) {
	for _, c := range []struct {
		word, args string
		want       bool
	}{
		{"abs", "", false}, {"abs", "v", true}, {"abs", "&", false}, {"abs", "vv", false},
		{"join", "v", false}, {"join", "vv", true}, {"join", "v&", false}, {"join", "vvv", false},
		{"map", "&v", true}, {"map", "v&", false}, {"map", "&", false}, {"map", "&vv", false},
		{"sort_by", "v&", true}, {"sort_by", "&v", false}, {"sort_by", "vv", false}, {"sort_by", "v&&", false},
		{"merge", "", false}, {"merge", "v", true}, {"merge", "vvvvv", true}, {"merge", "&", false}, {"merge", "vv&", false}, {"merge", "v&v", false},
	} {
		f, _ := Find(c.word)
		if got := f.Takes(c.args); got != c.want {
			t.Errorf("%s takes %q: %t", c.word, c.args, got)
		}
	}
}
