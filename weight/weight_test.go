package weight

import (
	"strings"
	"testing"

	"pluck/fault"
	"pluck/value"
)

func TestOf(t *testing.T) {
	for _, c := range []struct {
		v    value.Value
		want int
	}{
		{value.Null{}, 1}, {value.Bool(true), 1}, {value.Number(value.Limit), 1}, {value.String(""), 1}, {value.String("a\n"), 3}, {value.String("é😀"), 7},
		{value.List{}, 1}, {value.List{value.Null{}, value.List{}}, 3}, {value.List{value.String("ab"), value.List{value.String("c")}}, 7},
		{value.Object{}, 1}, {value.Object{{Key: "", Value: value.Null{}}}, 2}, {value.Object{{Key: "é", Value: value.String("a")}, {Key: "bcd", Value: value.Object{}}}, 9},
	} {
		if got := Of(c.v); got != c.want {
			t.Errorf("%s weighs %d, want %d", value.Text(c.v), got, c.want)
		}
	}
}

func TestBorne(t *testing.T) {
	most := value.String(strings.Repeat("a", 19999))
	if v, err := Borne(most); v != most || err != nil {
		t.Errorf("what weighs 20000 is not borne: %v", err)
	}
	if v, err := Borne(most + "a"); v != nil || err != fault.Large {
		t.Errorf("what weighs 20001 is borne: %v", err)
	}
}

func TestGathering(t *testing.T) {
	var g Gathering
	if got := value.Text(g.List()); got != "[]" {
		t.Errorf("without a thing it is %s", got)
	}
	for _, thing := range []value.Value{value.Null{}, value.String("ab"), value.List{}} {
		if err := g.Add(thing); err != nil {
			t.Error(err)
		}
	}
	if got := value.Text(g.List()); got != `[null,"ab",[]]` {
		t.Errorf("with its things it is %s", got)
	}
	// So far it weighs 6.
	if err := g.Add(value.String(strings.Repeat("a", 19992))); err != nil {
		t.Errorf("at 19999: %v", err)
	}
	if err := g.Add(value.Null{}); err != nil {
		t.Errorf("at 20000: %v", err)
	}
	if err := g.Add(value.Null{}); err != fault.Large {
		t.Errorf("at 20001: %v", err)
	}
}
