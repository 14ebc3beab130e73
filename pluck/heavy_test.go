package pluck_test

import (
	"encoding/json"
	"strings"
	"testing"

	"pluck/api"
	"pluck/pluck"
)

// heavy makes a string of 952 bytes into one of 19992: it weighs 19993.
const heavy = "join('',[@,@,@,@,@,@,@])|join('',[@,@,@])|"

var long = `"` + strings.Repeat("a", 952) + `"`

// wantBorne has pairs of an expression that comes just to the bound, of heavy's
// string, and one that comes just beyond.
func wantBorne(t *testing.T, pairs ...string) {
	t.Helper()
	for i := 0; i < len(pairs); i += 2 {
		if out, e := pluck.Eval(heavy+pairs[i], long); e != api.OK || len(out) < 19992 {
			t.Errorf("%s: %d bytes, %d", pairs[i], len(out), e)
		}
		if out, e := pluck.Eval(heavy+pairs[i+1], long); e != api.ErrLarge || out != "" {
			t.Errorf("%s: %d bytes, %d, want ErrLarge", pairs[i+1], len(out), e)
		}
	}
}

// wantLarge, wantType: these of heavy's string have that error.
func wantLarge(t *testing.T, exprs ...string) {
	t.Helper()
	for _, expr := range exprs {
		wantFailed(t, long, api.ErrLarge, heavy+expr)
	}
}

func wantType(t *testing.T, exprs ...string) {
	t.Helper()
	for _, expr := range exprs {
		wantFailed(t, long, api.ErrType, heavy+expr)
	}
}

func TestP6WeightOfLists(t *testing.T) {
	wantBorne(t, "[@,a,a,a,a,a,a]", "[@,a,a,a,a,a,a,a]", "[a,a,a,a,a,a,@]", "[a,a,a,a,a,a,a,@]", "[@,'12345']", "[@,'123456']", "[@,'éé1']", "[@,'éé12']", "[@,[[a]],`[1e9,{}]`]", "[@,[[a]],`[1e9,{},1]`]", "[@,{k:a},`{\"l\":1}`]", "[@,{k:a},`{\"lm\":1}`]", "[[[[[[[@]]]]]]]", "[[[[[[[[@]]]]]]]]", "[@]|[@]|[@]|[@]|[@]|[@]|[@]", "[@]|[@]|[@]|[@]|[@]|[@]|[@]|[@]")
	wantLarge(t, "[@,@]", "[@,@][0]", "[[@,@],a]", "![@,@]", "[@,@] || a", "[@,@].a", "length([@,@])", "[@,a,a,a,a,a,a,a][0]")
	// It is looked at behind each thing.
	wantLarge(t, "[@,a,a,a,a,a,a,a,abs(@)]", "[@,@,abs(@)]")
	wantType(t, "[@,a,a,a,a,a,a,abs(@),a]", "[@,abs(@),@]")
}

func TestP6WeightOfObjects(t *testing.T) {
	wantBorne(t, "{b:@,c:a,dd:a}", "{b:@,c:a,ddd:a}", `{b:@,c:a,"é":a}`, `{b:@,c:a,"éd":a}`, `{b:@,"":a,"\n":a,"\u0000":a}`, `{b:@,"":a,"\n":a,"\u0000":a,"":a,c:a}`, "{bbbbbb:@}", "{bbbbbbb:@}", "{b:{c:{dd:@}}}", "{b:{c:{ddd:@}}}", "{b:@,c:'123'}", "{b:@,c:'1234'}")
	wantLarge(t, "{b:@,c:@}", "{b:@,c:@}.b", "{b:{c:@,d:@}}")
	wantLarge(t, "{b:@,c:a,ddd:a,e:abs(@)}", "{b:@,c:@,d:abs(@)}")
	wantType(t, "{b:@,c:a,dd:a,e:abs(@)}", "{b:@,c:abs(@),d:@}")
	// Of a key that stands twice one value weighs; but what came behind each counts.
	wantBorne(t, "{bbbbbb:@,bbbbbb:a,bbbbbb:@}", "{bbbbbb:@,c:@,c:a}", "{b:@,b:@,c:a,c:a,dd:a}", "{b:@,b:@,c:a,c:a,ddd:a}", "{b:'123456789',b:@}", "{b:@,cccccccccc:a,b:a,d:@}")
}

func TestP6WeightOfMap(t *testing.T) {
	wantBorne(t, "[@]|map(&{b:@,c:a,d:a},@)", "[@]|map(&{b:@,c:a,dd:a},@)", "[@]|map(&[@,a,a,a,a,a],@)", "[@]|map(&[@,a,a,a,a,a,a],@)", "[@,a,a,a]|map(&@,@)", "[@,a,a,a]|map(&[@],@)|[@]|[@]|[@]|[@]")
	wantLarge(t, "[@,`1`]|map(&{b:reverse(@),c:a,dd:a},@)", "[@,`1`]|map(&[reverse(@),a,a,a,a,a,a],@)")
	wantType(t, "[@,`1`]|map(&{b:reverse(@),c:a,d:a},@)", "[`1`,@]|map(&{b:reverse(@),c:a,dd:a},@)", "[@,`1`]|map(&[reverse(@),a,a,a,a,a],@)")
}

func TestP6WeightOfProjections(t *testing.T) {
	for _, goesThrough := range []string{"[@,`1`][*]", "[@,`1`][]", "[@,`1`][:]", "[`1`,@][::-1]", "[@,`1`][?@]", "{p:@,q:`1`}.*", "[@,a,`1`][*]"} {
		wantLarge(t, goesThrough+".{b:reverse(@),c:a,dd:a}", goesThrough+".[reverse(@),a,a,a,a,a,a]", goesThrough+".join('1234567',[reverse(@),''])")
		wantType(t, goesThrough+".{b:reverse(@),c:a,d:a}", goesThrough+".[reverse(@),a,a,a,a,a]", goesThrough+".join('123456',[reverse(@),''])")
	}
	wantBorne(t, "[@][*].[@,a,a,a,a,a]", "[@][*].[@,a,a,a,a,a,a]", "[@].{b:@,c:a,d:a}", "[@].{b:@,c:a,dd:a}", "[[@]][*][*].[@,a,a,a,a]", "[[@]][*][*].[@,a,a,a,a,a]", "[@,'12345'][*]", "[@,'12345'][*].[@]", "[@]|[[@][0]][].[@,a,a,a,a,a]", "[@]|[[@][0]][].[@,a,a,a,a,a,a]")
	// Nulls do not come to the list.
	wantBorne(t, "[@,a,a,a,a,a,a][*]|[[0],[0]==a,a,a,a,a,a]", "[@,a,a,a,a,a,a][*]|[@,a,a,a,a,a,a]", "{b:@,c:a,dd:a}.*|[@,a,a,a,a,a]", "{b:@,c:a,dd:a}.*|[@,a,a,a,a,a,a]")
}

func TestP6WeightOfStrings(t *testing.T) {
	// 19992 bytes, and the rest up to 19999.
	wantBorne(t, "join(@,['','1234567'])", "join(@,['','12345678'])", "join('1234567',[@,''])", "join('12345678',[@,''])", "join('12',['',@,'123'])", "join('12',['',@,'1234'])", "join('éé',[@,'123'])", "join('éé',[@,'1234'])")
	wantLarge(t, "join(@,[@,@])", "join(@,['','',''])", "join(@,['',''])|join(@,['','',''])", "join('12345678',[@,''])|a", "!join('12345678',[@,''])")
	wantBorne(t, "to_string([@,`10`])", "to_string([@,`100`])", "to_string([@,''])", "to_string([@,'1'])", `to_string({"":@})`, "to_string({b:@})", "to_string(@)|[@,a,a,a,a,a,a]", "to_string([@])|[@,a,a,a]")
	wantLarge(t, "to_string([@,a])", "to_string({b:@,c:`1`})", "to_string([@,'\n'])", "to_string([@,'\x01'])")
	wantGiven(t, long, heavy+"to_string(@)|length(@)", "19992", heavy+"reverse(@)|length(@)", "19992", heavy+"to_string([@,''])|length(@)", "19999")
	// Escapes make a text longer than what it tells is heavy.
	wantGiven(t, `"`+strings.Repeat(`\u0001`, 160)+`"`, "join('',[@,@,@,@,@])|join('',[@,@,@,@])|to_string([@])|length(@)", "19204", "[@,@,@,@,@]|[@,@,@,@]|to_string(@)|length(@)", "19269")
	wantFailed(t, `"`+strings.Repeat(`\u0001`, 160)+`"`, api.ErrLarge, heavy+"to_string([@])")
	// A great many of a great string between them would be far too much.
	wantFailed(t, "["+strings.Repeat(`"",`, 300)+`""]`, api.ErrLarge, "[@,@,@,@,@,@,@,@][]|[@,@,@,@,@,@,@,@][]|join(join('0123456789',@[:1900]),@)")
}

func TestP6WeightOfOthers(t *testing.T) {
	wantBorne(t, "to_array({b:@,c:a,d:a})", "to_array({b:@,c:a,dd:a})", "to_array(@)", "to_array({b:@,c:a,ddd:a})", "to_array([@,a,a,a,a,a,a])", "to_array([@,a,a,a,a,a,a,a])", "merge({b:@},{c:a,dd:a})", "merge({b:@},{c:a,ddd:a})", "merge({b:@},{b:@,c:a,dd:a})", "merge({b:@},{c:@})", "merge({b:a,c:a},{b:@,dd:a})", "merge({b:a,c:a},{b:@,ddd:a})")
	// Looked at when all is there: on the way it was heavier.
	wantBorne(t, "merge({b:@},{c:@},{b:a})", "merge({b:@},{c:@},{d:a})", "merge({b:@},{b:a,c:@})", "merge({b:@},{c:@},{b:@})")
	// What has no more than it is made of is borne.
	wantBorne(t, "sort([@,'12345'])", "sort([@,'123456'])", "reverse([@,a,a,a,a,a,a])", "reverse([@,a,a,a,a,a,a,a])", "values({b:@,c:a,dd:a})", "values({b:@,c:a,ddd:a})", "sort_by([@,'12345'],&@)", "sort_by([@,'123456'],&@)", "not_null({b:@,c:a,dd:a})", "not_null({b:@,c:a,ddd:a})", "max_by([{b:@,c:a,d:a}],&b)", "max_by([{b:@,c:a,dd:a}],&b)")
	wantType(t, "abs([@,a,a,a,a,a,a])", "join(`1`,[@,@[0]])", "contains(`1`,@)")
}

// Whatever comes about on the way, it ends.
func TestP1HeavyQuestionsEnd(t *testing.T) {
	numbers := "[" + strings.Repeat("1,", 498) + "1]"
	object := "{"
	for i := range 100 {
		object += `"` + string(rune('à'+i)) + `":1,`
	}
	object += `"":[]}`
	for _, json := range []string{numbers, object, long, "[]", strings.Repeat("[", 12) + strings.Repeat("]", 12)} {
		for _, expr := range []string{
			strings.Repeat("[@,@,@,@]|", 11) + "@", strings.Repeat("@.[@,@,@,@][*]|", 7) + "@", "@" + strings.Repeat(".[@,@,@,@][*]", 7) + ".a", "@" + strings.Repeat(".[@,@,@,@][*]", 6) + "[?@==@].a", "@" + strings.Repeat(".[@,@,@]", 12), "@" + strings.Repeat(".{a:@,b:@,c:@}.*", 6), strings.Repeat("[@,@,@][]|", 11) + "@", strings.Repeat("join(@,[@,@])|", 8) + "@", strings.Repeat("to_string([@,@])|", 6) + "@", strings.Repeat("map(&", 11) + "@" + strings.Repeat(",[@,@])", 7), "to_string(@)" + strings.Repeat("|to_string([@])", 7), "[@,@,@,@,@,@][]|[@,@,@,@,@][]|[*].[@,@,@,@].[@,@,@,@].[@,@,@,@].[@,@,@,@].a",
		} {
			pluck.Eval(expr, json)
			pluck.Run([]string{expr}, strings.Repeat(json+" ", 4000/(len(json)+1)))
		}
	}
	// Far more is told than is read.
	out, status := pluck.Run([]string{"-u", "@&&join('',[@,@,@,@,@,@,@,@,@])|join('',[@,@,@,@,@,@,@,@])|join('',[@,@,@,@,@,@])"}, strings.Repeat(`"1234567"`, 400))
	if want := strings.Repeat(strings.Repeat("1234567", 432)+"\n", 400); out != want || status != 0 {
		t.Errorf("%d bytes, %d, want %d bytes", len(out), status, len(want))
	}
}

func TestP8GivenIsAText(t *testing.T) {
	deep := strings.Repeat("[", 12) + "1" + strings.Repeat("]", 12)
	wantGiven(t, deep, strings.Repeat("[", 12)+"@"+strings.Repeat("]", 12), "["+strings.Repeat("[", 11)+deep+strings.Repeat("]", 11)+"]", strings.Repeat("[@]|", 29)+"@", strings.Repeat("[", 29)+deep+strings.Repeat("]", 29))
	for _, expr := range []string{"@", "[@,@,@,@,@,@,@]", "{a:@,b:@,\"\\u0000\\\"\":@,\"é\":[@]}", "to_string(@)", "to_string([@,@])", "[to_string(@)]|to_string(@)", "keys(@)", "*", "reverse(to_string(@))"} {
		for _, text := range []string{"{}", `{"a\"\\\b\f\n\r\t\u0000\u001f/é\u2028😀":"a\"\\\b\f\n\r\t\u0000\u001f/é\u2028😀"}`, `{"a":[` + strings.Repeat("-999999999.999999,", 54) + "0.000001]}"} {
			out, e := pluck.Eval(expr, text)
			if e != api.OK || !json.Valid([]byte(out)) {
				t.Errorf("%s of %.60s = %.100s, %d", expr, text, out, e)
			}
		}
	}
	out, e := pluck.Eval("[@,@,@,@]|[@,@,@,@]|[@,@,@,@]", `[`+strings.Repeat("-999999999.999999,", 54)+"0.000001]")
	if e != api.OK || !json.Valid([]byte(out)) || len(out) < 60000 {
		t.Errorf("%d bytes, %d", len(out), e)
	}
}
