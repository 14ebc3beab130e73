package tree

import (
	"testing"

	"pluck/value"
)

func TestText(t *testing.T) {
	for _, c := range []struct {
		n    Node
		want string
	}{
		{Name("a\n"), `."a\n"`}, {Raw("a\""), `"a\""`}, {Current{}, "@"}, {Values{}, "*"}, {Things{}, "[*]"}, {Flat{}, "[]"},
		{Literal{value.List{value.Null{}, value.Number(1)}}, "`[null,0.000001]`"},
		{Index(-2), "[-2]"}, {Slice{By: 1}, "[::1]"}, {Slice{From: Bound{true, 0}, By: -1}, "[0::-1]"}, {Slice{To: Bound{true, -3}, By: 2}, "[:-3:2]"},
		{Filter{Current{}}, "[? @]"}, {Not{Current{}}, "(! @)"}, {Pair{"<=", Current{}, Values{}}, "(<= @ *)"},
		{List{Current{}}, "[@]"}, {List{Current{}, Flat{}}, "[@ []]"},
		{Object{{"a", Current{}}}, `{"a" @}`}, {Object{{"a", Current{}}, {"\\", Values{}}}, `{"a" @ "\\" *}`},
		{&Call{Word: "f", Args: []Node{Current{}, Expression{Values{}}}}, "(f @ (& *))"},
		{Chain{First: Values{}}, "(. *)"}, {Chain{Name("a"), []Node{Index(0), Name("b")}}, `(. ."a" [0] ."b")`},
	} {
		if got := Text(c.n); got != c.want {
			t.Errorf("Text(%#v) = %s, want %s", c.n, got, c.want)
		}
	}
}

// Telling a chain must not write into the spare room of its steps.
func TestTextLeavesTheTreeAlone(t *testing.T) {
	room := []Node{Name("a"), Name("b")}
	c := Chain{First: Current{}, Steps: room[:1]}
	for range 2 {
		if got, want := Text(c), `(. @ ."a")`; got != want {
			t.Errorf("Text = %s, want %s", got, want)
		}
	}
	if room[1] != Name("b") {
		t.Errorf("the spare room has been written into")
	}
}
