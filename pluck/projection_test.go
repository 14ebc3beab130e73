package pluck_test

import (
	"strconv"
	"strings"
	"testing"

	"pluck/api"
)

func TestP5Values(t *testing.T) {
	const json = `{"x":{"a":1,"b":null},"n":null,"y":{"a":[3,null],"c":{"a":4}},"z":5,"l":[{"a":6}],"e":{}}`
	wantGiven(t, json, "*", `[{"a":1,"b":null},{"a":[3,null],"c":{"a":4}},5,[{"a":6}],{}]`, "*.a", "[1,[3,null]]", "x.*", "[1]", "y.*", `[[3,null],{"a":4}]`, "*.*", `[[1],[[3,null],{"a":4}],[]]`, "*.*.a", "[[],[4],[]]", "*.*.*", "[[],[[4]],[]]", "e.*", "[]", "e.*.a", "[]", "z.*", "null", "l.*", "null", "n.*", "null", "w.*", "null", "'a'.*", "null", "@.*", `[{"a":1,"b":null},{"a":[3,null],"c":{"a":4}},5,[{"a":6}],{}]`, "*.b", "[]", "*[0]", `[{"a":6}]`, "*[0].a", "[6]", "* | [0]", `{"a":1,"b":null}`, "* | [0].b", "null", "(*)[3]", `[{"a":6}]`, "(*).a", "null", "(*[0])[0]", `{"a":6}`, "*.type(@)", `["object","null","object","number","array","object"]`, "*.[a]", `[[1],[[3,null]],[null],[null],[null]]`, "*.{a: a}.a", "[1,[3,null]]")
	wantGiven(t, "{}", "*", "[]", "*.a.b", "[]")
	for _, json := range []string{"null", "false", "1", `"ab"`, "[]", `[{"a":1}]`} {
		wantGiven(t, json, "*", "null", "*.a", "null", "*.abs('x')", "null", "@.*", "null")
	}
}

func TestP5Things(t *testing.T) {
	wantGiven(t, `[{"a":1},{"a":null},{"b":2},3,null,[4,null,[5]],{"a":{"a":6}},"x",false]`,
		"[*]", `[{"a":1},{"a":null},{"b":2},3,[4,null,[5]],{"a":{"a":6}},"x",false]`, "[*].a", `[1,{"a":6}]`, "[*].a.a", "[6]", "[*][0]", "[4]", "[*][*]", "[[4,[5]]]", "[*][*][*]", "[[[5]]]", "[*][*][0]", "[[5]]", "[*][-1]", "[[5]]", "[*] | [0].a", "1", "[*].a | [0]", "1", "([*].a)[0]", "1", "([*].a).a", "null", "([*])[0]", `{"a":1}`, "[*].a || 'x'", `[1,{"a":6}]`, "[*].x || 'x'", `"x"`, "[*].*", `[[1],[],[2],[{"a":6}]]`, "[*].type(@) | [4]", `"null"`, "[*].type(@) | length(@)", "9", "[*].[@] | length(@)", "8", "@[*].a", `[1,{"a":6}]`, "[*].a == `[1,{\"a\":6}]`", "true", "[*].not_null(a, b)", `[1,2,{"a":6}]`)
	wantGiven(t, "[]", "[*]", "[]", "[*].a", "[]", "[*].abs('x')", "[]", "[*][*]", "[]")
	wantGiven(t, "[null,[null],[]]", "[*]", "[[null],[]]", "[*][*]", "[[],[]]", "[*][]", "[]", "[*] | [0]", "[null]")
	for _, json := range []string{"null", "false", "1", `"ab"`, "{}", `{"a":[1]}`} {
		wantGiven(t, json, "[*]", "null", "[*].a", "null", "[*].abs('x')", "null", "[*][*]", "null", "@[*]", "null")
	}
}

func TestP5Filters(t *testing.T) {
	const json = `[{"a":1,"b":"x"},{"a":2},{"a":null,"b":"y"},3,null,[0],"",{"a":1,"b":null}]`
	wantGiven(t, json, "[?a]", `[{"a":1,"b":"x"},{"a":2},{"a":1,"b":null}]`, "[?a].b", `["x"]`, "[?b].b", `["x","y"]`, "[?!a] | length(@)", "4", "[?a == `1`].a", "[1,1]", "[?a < `2`].b", `["x"]`, "[?@]", `[{"a":1,"b":"x"},{"a":2},{"a":null,"b":"y"},3,[0],{"a":1,"b":null}]`, "[?[0] == `0`]", "[[0]]", "[?a && b].a", "[1]", "[?'']", "[]", "[?`[]`]", "[]", "[?`0`] | length(@)", "7", "[?'x'][0]", "[0]", "[?a][?a]", "[]", "[?a] | [?b] | [0].a", "1", "[?a | !@].b", `["y"]`, "[?type(@) == 'null']", "[]", "[?type(@) == 'null'].type(@)", `["null"]`, "[?type(@) == 'array'][]", "[0]", "[?a].[a]", "[[1],[2],[1]]", "([?a])[1].a", "2", "@[?a].a", "[1,2,1]")
	wantGiven(t, `{"l":[{"k":[1,2]},{"k":[]},{"k":[3]}]}`, "l[?k].k", "[[1,2],[3]]", "l[?k].k[]", "[1,2,3]", "l[?k].k[?@ > `1`]", "[[2],[3]]", "l[?k[?@ == `3`]].k", "[[3]]", "l[*].k[?@ > `2`]", "[[],[],[3]]")
	wantGiven(t, "[]", "[?abs('x')]", "[]", "[?a].abs('x')", "[]")
	for _, json := range []string{"null", "false", "1", `"ab"`, "{}", `{"a":[1]}`} {
		wantGiven(t, json, "[?a]", "null", "[?abs('x')]", "null", "[?'x'].abs('x')", "null", "@[?@]", "null")
	}
	// The filter's error at the second thing is ahead of the sum's at the first.
	wantFailed(t, `[[1e9,1],["a"]]`, api.ErrType, "[?abs([0])].sum(@)", "[?abs([0])] | [*].sum(@)", "[1:].sum(@)")
	wantFailed(t, `[[1e9,1],["a"]]`, api.ErrLarge, "[*].sum(@)", "[?[0]].sum(@)", "[].[@] | [`[1e9,1]`, 'a'] | sum([0])")
}

func TestP5Flat(t *testing.T) {
	wantGiven(t, `[1,[2,[3,[4]]],[],null,[null,5],{"a":[6,[7]]}]`,
		"[]", `[1,2,[3,[4]],5,{"a":[6,[7]]}]`, "[][]", `[1,2,3,[4],5,{"a":[6,[7]]}]`, "[][][]", `[1,2,3,4,5,{"a":[6,[7]]}]`, "[].a", "[[6,[7]]]", "[].a[]", "[6,[7]]", "[].a[][]", "[6,7]", "[][0]", "[3]", "[] | [0]", "1", "[] | [1]", "2", "([])[1]", "2", "[*][]", `[1,2,[3,[4]],5,{"a":[6,[7]]}]`, "[*][1][]", "[3,[4],5]", "[*][*][]", "[2,[3,[4]],5]", "[*][*][*][]", "[[3,[4]]]", "[*][*][*][][]", "[3,[4]]", "[*][0][]", "[2]", "[1:3][]", "[2,[3,[4]]]", "[?@ == `1`][]", "[1]", "[0][]", "null", "[1][]", "[2,3,[4]]", "a[]", "null", "[][*]", "[[3,[4]]]", "[].[@] | length(@)", "5", "[].type(@)", `["number","number","array","null","null","number","object"]`, "[1][][0]", "[4]", "[1][] | [0]", "2", "@[]", `[1,2,[3,[4]],5,{"a":[6,[7]]}]`)
	wantGiven(t, `{"a":{"x":[1,2],"y":[[3]],"z":4}}`, "a.*[]", "[1,2,[3],4]", "a.*[][]", "[1,2,3,4]", "a.*[0]", "[1,[3]]", "a.*[0][]", "[1,3]", "a.*[*][]", "[1,2,[3]]", "a[]", "null", "a[].x", "null", "a[].abs('x')", "null", "a[].x[]", "null", "a[][].abs('x')", "null", "a.z[]", "null", "a.z[] | type(@)", `"null"`, "[a.x, a.y][]", "[1,2,[3]]", "a.x[][]", "[1,2]")
	// Behind `[]` something else may give what is no list: then there is null.
	wantGiven(t, "[[1],[2]]", "[].[@][]", "[1,2]", "[0].length(@)[]", "null", "[0][].abs(@)[].[@]", "[[1]]")
	wantGiven(t, "[]", "[]", "[]", "[][]", "[]", "[].abs('x')", "[]")
	for _, json := range []string{"null", "false", "1", `"ab"`, "{}", `{"a":[1]}`} {
		wantGiven(t, json, "[]", "null", "[][]", "null", "[].a", "null", "[].abs('x')", "null", "[][].abs('x')", "null")
	}
}

func TestP5Slices(t *testing.T) {
	wantGiven(t, `[{"a":1},null,[2,3],{"a":4}]`, "[:]", `[{"a":1},[2,3],{"a":4}]`, "[:2]", `[{"a":1}]`, "[1:2]", "[]", "[::-1]", `[{"a":4},[2,3],{"a":1}]`, "[::2].a", "[1]", "[1:].a", "[4]", "[2:][0]", "[2]", "[2:3][]", "[2,3]", "[1:] | [0]", "[2,3]", "([1:])[0]", "[2,3]", "[:][:]", "[[2,3]]", "[:][1:]", "[[3]]", "[:].type(@)", `["object","null","array","object"]`, "[-1:].a", "[4]", "@[:1].a", "[1]")
	for _, json := range []string{"null", "false", "1", `"abc"`, "{}", `{"a":[1]}`} {
		wantGiven(t, json, "[:]", "null", "[1:2:3]", "null", "[::-1].abs('x')", "null")
	}
}

// sliced goes by the document's words: bounds first made whole, then cut.
func sliced(n int, a, b, c string) string {
	step := 1
	if c != "" {
		step, _ = strconv.Atoi(c)
	}
	low, high := 0, n
	from, to := 0, n
	if step < 0 {
		low, high = -1, n-1
		from, to = n-1, -1
	}
	cut := func(text string, notThere int) int {
		if text == "" {
			return notThere
		}
		at, _ := strconv.Atoi(text)
		if at < 0 {
			at += n
		}
		if at < low {
			return low
		}
		if at > high {
			return high
		}
		return at
	}
	from, to = cut(a, from), cut(b, to)
	var things []string
	for i := from; 0 <= i && i < n && (to-i)*step > 0; i += step {
		things = append(things, strconv.Itoa(i))
	}
	return "[" + strings.Join(things, ",") + "]"
}

func TestP5AllSlices(t *testing.T) {
	bounds := []string{"", "0", "1", "2", "3", "4", "5", "9", "999999", "-0", "-1", "-2", "-3", "-4", "-5", "-9", "-999999"}
	steps := []string{"", "1", "2", "3", "7", "999999", "-1", "-2", "-3", "-7", "-999999"}
	for n := range 5 {
		json := sliced(n, "", "", "")
		for _, a := range bounds {
			for _, b := range bounds {
				wantGiven(t, json, "["+a+":"+b+"]", sliced(n, a, b, ""))
				for _, c := range steps {
					wantGiven(t, json, "["+a+":"+b+":"+c+"]", sliced(n, a, b, c))
				}
			}
		}
	}
}

// How far a projection reaches, and what ends it.
func TestP5ReachOfProjections(t *testing.T) {
	const json = `{"l":[{"m":[{"n":[1,2]},{"n":[3]}]},{"m":[{"n":[]}]},{"m":null},{}],"o":{"p":{"q":[1]},"r":{"q":[2,3]}}}`
	wantGiven(t, json,
		"l[*].m", `[[{"n":[1,2]},{"n":[3]}],[{"n":[]}]]`, "l[*].m[*].n", "[[[1,2],[3]],[[]]]", "l[*].m[*].n[*]", "[[[1,2],[3]],[[]]]", "l[*].m[*].n[0]", "[[1,3],[]]", "l[*].m[].n", "[[1,2],[3],[]]", "l[].m[].n[]", "[1,2,3]", "l[].m[].n[] | [0]", "1", "l[*].m[*].n[]", "[[1,2],[3],[]]", "l[*].m[*].n[][]", "[1,2,3]", "l[*].m[0].n[0]", "[1]", "l[*].m[0].n", "[[1,2],[]]", "l[*].m[0].n | [0]", "[1,2]", "l[*].m[0].n | [0] | [1]", "2", "(l[*].m)[0][0].n", "[1,2]", "(l[*].m[0].n)[0]", "[1,2]", "o.*.q", "[[1],[2,3]]", "o.*.q[0]", "[1,2]", "o.*.q[]", "[1,2,3]", "o.*.q | [1][0]", "2", "o.*.sum(q)", "[1,5]", "o.*.q[*]", "[[1],[2,3]]", "sum(o.*.q[])", "6", "l[:2].m[1:].n", "[[[3]],[]]", "l[?m].m[?n].n", "[[[1,2],[3]],[]]", "l[*].[m[*].n]", "[[[[1,2],[3]]],[[[]]],[null],[null]]", "l[*].{c: m[].n[]}", `[{"c":[1,2,3]},{"c":[]},{"c":null},{"c":null}]`, "l[*].m.not_null(@, 'x')", `[[{"n":[1,2]},{"n":[3]}],[{"n":[]}],"x","x"]`)
	wantFailed(t, json, api.ErrType, "l[*].m.length(@)")
}
