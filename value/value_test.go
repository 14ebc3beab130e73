package value

import "testing"

func TestText(t *testing.T) {
	for _, c := range []struct {
		v    Value
		want string
	}{
		{Null{}, "null"}, {Bool(false), "false"}, {Bool(true), "true"},
		{Number(0), "0"}, {Number(1), "0.000001"}, {Number(-1), "-0.000001"}, {Number(1500000), "1.5"},
		{Number(-10020300), "-10.0203"}, {Number(Limit), "1000000000"}, {Number(1 - Limit), "-999999999.999999"},
		{String(""), `""`}, {String("a/é\u2028😀\x7f"), "\"a/é\u2028😀\x7f\""},
		{String("\"\\\b\f\n\r\t\v\x00\x1f"), `"\"\\\b\f\n\r\t\u000b\u0000\u001f"`},
		{List(nil), "[]"}, {List{}, "[]"}, {List{Null{}}, "[null]"}, {List{Number(Unit), List{}, String("")}, `[1,[],""]`},
		{Object(nil), "{}"}, {Object{{"b", Null{}}, {"a\n", Object{}}}, `{"b":null,"a\n":{}}`},
	} {
		if got := Text(c.v); got != c.want {
			t.Errorf("Text(%#v) = %s, want %s", c.v, got, c.want)
		}
	}
}

func TestPutKeepsTheFirstPlace(t *testing.T) {
	var o Object
	o = o.Put("a", Number(Unit)).Put("b", Null{}).Put("a", Bool(true)).Put("", List{})
	if got, want := Text(o), `{"a":true,"b":null,"":[]}`; got != want {
		t.Errorf("an object comes to %s, want %s", got, want)
	}
}

func TestGetAndValues(t *testing.T) {
	o := Object{{"a", Number(1)}, {"", Null{}}, {"b", List{}}}
	if v, ok := o.Get("a"); v != Number(1) || !ok {
		t.Errorf("a has %v, %t", v, ok)
	}
	if v, ok := o.Get(""); v != (Null{}) || !ok {
		t.Errorf("the empty key has %v, %t", v, ok)
	}
	if v, ok := o.Get("c"); v != nil || ok {
		t.Errorf("c has %v, %t", v, ok)
	}
	if got := Text(o.Values()); got != "[0.000001,null,[]]" {
		t.Errorf("the values are %s", got)
	}
	if got := Object(nil).Values(); len(got) != 0 {
		t.Errorf("the values of none are %v", got)
	}
}

// ofAllKinds has no two values that are the same.
func ofAllKinds() []Value {
	return []Value{
		Null{}, Bool(false), Bool(true), Number(0), Number(1), String(""), String("a"), String("null"), List{}, List{Null{}}, List{Number(0)}, List{Number(0), Number(1)}, List{Number(1), Number(0)}, List{List{}},
		Object{}, Object{{"a", Null{}}}, Object{{"b", Null{}}}, Object{{"a", Number(0)}}, Object{{"a", Number(0)}, {"b", Number(1)}}, Object{{"a", Number(1)}, {"b", Number(0)}}, Object{{"a", Number(0)}, {"c", Number(1)}}, Object{{"a", List{Object{}}}},
	}
}

func TestSame(t *testing.T) {
	all, others := ofAllKinds(), ofAllKinds()
	for i, a := range all {
		for k, b := range others {
			if got := Same(a, b); got != (i == k) {
				t.Errorf("Same(%s, %s) = %t", Text(a), Text(b), got)
			}
		}
	}
	if !Same(List(nil), List{}) || !Same(Object(nil), Object{}) {
		t.Errorf("two that are empty are not the same")
	}
	a := List{Object{{"a", Number(1)}, {"b", Object{{"c", Null{}}, {"d", Bool(true)}}}}}
	b := List{Object{{"b", Object{{"d", Bool(true)}, {"c", Null{}}}}, {"a", Number(1)}}}
	if !Same(a, b) || !Same(b, a) {
		t.Errorf("the order of keys counts")
	}
}

func TestFalseLike(t *testing.T) {
	for _, v := range []Value{Null{}, Bool(false), String(""), List(nil), List{}, Object(nil), Object{}} {
		if !FalseLike(v) {
			t.Errorf("%s is true like", Text(v))
		}
	}
	for _, v := range []Value{Bool(true), Number(0), Number(-1), String("0"), String("\x00"), List{Null{}}, Object{{"", Null{}}}} {
		if FalseLike(v) {
			t.Errorf("%s is false like", Text(v))
		}
	}
}
