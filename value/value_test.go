package value

import "testing"

func TestText(t *testing.T) {
	for _, c := range []struct {
		v    Value
		want string
	}{
		{Null{}, "null"}, {Bool(false), "false"}, {Bool(true), "true"},
		{Number(0), "0"}, {Number(1), "0.000001"}, {Number(-1), "-0.000001"}, {Number(1500000), "1.5"},
		{Number(-10020300), "-10.0203"}, {Number(Limit), "1000000000"}, {Number(1 - Limit), "-999999999.999999"},
		{String(""), `""`}, {String("a/é\u2028😀\x7f"), "\"a/é\u2028😀\x7f\""},
		{String("\"\\\b\f\n\r\t\v\x00\x1f"), `"\"\\\b\f\n\r\t\u000b\u0000\u001f"`},
		{List(nil), "[]"}, {List{}, "[]"}, {List{Null{}}, "[null]"}, {List{Number(Unit), List{}, String("")}, `[1,[],""]`},
		{Object(nil), "{}"}, {Object{{"b", Null{}}, {"a\n", Object{}}}, `{"b":null,"a\n":{}}`},
	} {
		if got := Text(c.v); got != c.want {
			t.Errorf("Text(%#v) = %s, want %s", c.v, got, c.want)
		}
	}
}

func TestPutKeepsTheFirstPlace(t *testing.T) {
	var o Object
	o = o.Put("a", Number(Unit)).Put("b", Null{}).Put("a", Bool(true)).Put("", List{})
	if got, want := Text(o), `{"a":true,"b":null,"":[]}`; got != want {
		t.Errorf("an object comes to %s, want %s", got, want)
	}
}
