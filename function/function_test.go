package function

import (
	"errors"
	"slices"
	"testing"

	"pluck/fault"
	"pluck/value"
)

func TestFind(t *testing.T) {
	for _, row := range table() {
		if f, ok := Find(row.word); !ok || f.word != row.word {
			t.Errorf("Find(%q) = %v, %t", row.word, f, ok)
		}
	}
	for _, word := range []string{"", "f", "Abs", "abs ", "max_", "by"} {
		if f, ok := Find(word); ok {
			t.Errorf("Find(%q) = %v", word, f)
		}
	}
}

func TestTableHasEachFunctionOnce(t *testing.T) {
	var words []string
	for _, row := range table() {
		words = append(words, row.word)
	}
	if len(words) != 26 || !slices.IsSorted(words) || len(slices.Compact(words)) != 26 {
		t.Errorf("the functions are %v", words)
	}
}

func TestTakes(t *testing.T) {
	for _, c := range []struct {
		word, args string
		want       bool
	}{
		{"abs", "", false}, {"abs", "v", true}, {"abs", "&", false}, {"abs", "vv", false},
		{"join", "v", false}, {"join", "vv", true}, {"join", "v&", false}, {"join", "vvv", false},
		{"map", "&v", true}, {"map", "v&", false}, {"map", "&", false}, {"map", "&vv", false},
		{"sort_by", "v&", true}, {"sort_by", "&v", false}, {"sort_by", "vv", false}, {"sort_by", "v&&", false},
		{"merge", "", false}, {"merge", "v", true}, {"merge", "vvvvv", true}, {"merge", "&", false}, {"merge", "vv&", false}, {"merge", "v&v", false},
	} {
		f, _ := Find(c.word)
		if got := f.Takes(c.args); got != c.want {
			t.Errorf("%s takes %q: %t", c.word, c.args, got)
		}
	}
}

func called(word string, args ...Arg) (value.Value, error) {
	f, _ := Find(word)
	return f.Call(args)
}

func TestCall(t *testing.T) {
	n, s, list := Arg{Value: value.Number(-1)}, Arg{Value: value.String("a")}, Arg{Value: value.List{value.String("b"), value.String("a")}}
	itself := Arg{By: func(current value.Value) (value.Value, error) { return current, nil }}
	for _, c := range []struct {
		word string
		args []Arg
		want string
	}{
		{"abs", []Arg{n}, "0.000001"}, {"join", []Arg{s, list}, `"baa"`}, {"map", []Arg{itself, list}, `["b","a"]`}, {"sort_by", []Arg{list, itself}, `["a","b"]`}, {"max", []Arg{list}, `"b"`}, {"not_null", []Arg{{Value: value.Null{}}, s, n}, `"a"`},
	} {
		if v, err := called(c.word, c.args...); err != nil || value.Text(v) != c.want {
			t.Errorf("%s gives %v, %v, want %s", c.word, v, err, c.want)
		}
	}
	for _, c := range []struct {
		word string
		args []Arg
	}{
		{"abs", []Arg{s}}, {"join", []Arg{n, list}}, {"join", []Arg{s, s}}, {"map", []Arg{itself, s}}, {"sort_by", []Arg{n, itself}}, {"merge", []Arg{{Value: value.Object{}}, {Value: value.Object{}}, list}},
	} {
		if v, err := called(c.word, c.args...); v != nil || err != fault.Type {
			t.Errorf("%s gives %v, %v, want none", c.word, v, err)
		}
	}
}

// An expression's error is told as it is, and nothing is asked behind it.
func TestCallEndsWithTheErrorOfAnExpression(t *testing.T) {
	own := errors.New("its own")
	list := Arg{Value: value.List{value.Number(1), value.Number(2), value.Number(3)}}
	for _, word := range []string{"map", "max_by", "min_by", "sort_by"} {
		asked := 0
		by := Arg{By: func(current value.Value) (value.Value, error) {
			asked++
			if asked == 2 {
				return nil, own
			}
			return current, nil
		}}
		args := []Arg{list, by}
		if word == "map" {
			args = []Arg{by, list}
		}
		if _, err := called(word, args...); err != own || asked != 2 {
			t.Errorf("%s ends with %v, and asked %d times", word, err, asked)
		}
	}
}

// Values are shared: none is written into.
func TestCallLeavesItsArgsAlone(t *testing.T) {
	room := value.List{value.Number(3), value.Number(1), value.Number(2), value.Number(9)}
	object := value.Object{{Key: "a", Value: value.Number(3)}, {Key: "b", Value: value.Null{}}, {Key: "z", Value: value.Null{}}}
	list, few := Arg{Value: room[:3]}, Arg{Value: object[:2]}
	other := Arg{Value: value.Object{{Key: "a", Value: value.Null{}}, {Key: "c", Value: value.Null{}}}}
	by := Arg{By: func(current value.Value) (value.Value, error) { return current, nil }}
	for _, c := range []struct {
		word string
		args []Arg
	}{
		{"sort", []Arg{list}}, {"sort_by", []Arg{list, by}}, {"reverse", []Arg{list}}, {"map", []Arg{by, list}}, {"merge", []Arg{few, other}}, {"max", []Arg{list}}, {"values", []Arg{few}}, {"to_array", []Arg{few}},
	} {
		if _, err := called(c.word, c.args...); err != nil {
			t.Errorf("%s: %v", c.word, err)
		}
		if value.Text(room) != "[0.000003,0.000001,0.000002,0.000009]" || value.Text(object) != `{"a":0.000003,"b":null,"z":null}` {
			t.Errorf("%s wrote into its args: %s, %s", c.word, value.Text(room), value.Text(object))
		}
	}
}
