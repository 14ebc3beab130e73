package command

import (
	"errors"
	"strings"
	"testing"

	"pluck/fault"
)

func TestFailures(t *testing.T) {
	for _, c := range []struct {
		args, input, out string
		status           int
		cause            error
	}{
		{"-x @", "1", "", BadCall, fault.Args}, {"@ @", "1", "", BadCall, fault.Args}, {"@", strings.Repeat(" ", 4001), "", BadCall, fault.Long},
		{"a..b", "1", "", BadExpression, fault.Syntax}, {"f()", "x", "", BadExpression, fault.Name}, {"abs()", "1", "", BadExpression, fault.Arity}, {"`1e10`", "1", "", BadExpression, fault.Large}, {strings.Repeat("a", 121), "1", "", BadExpression, fault.Long},
		{"@", "1 x", "1\n", BadText, fault.JSON}, {"@", "1 1e10", "1\n", BadText, fault.Large}, {"@", "[" + strings.Repeat(" ", 999) + "]", "", BadText, fault.Long},
		{"abs(@)", "1[]", "1\n", BadReckoning, fault.Type}, {"sum(@)", "[1e9,1]", "", BadReckoning, fault.Large},
	} {
		out, err := Run(strings.Split(c.args, " "), c.input)
		var failure Failure
		if out != c.out || !errors.As(err, &failure) || failure.Status != c.status || !errors.Is(err, c.cause) {
			t.Errorf("Run(%.40q, %.40q) = %q, %v, want %q, %v", c.args, c.input, out, err, c.out, c.cause)
		}
	}
	if out, err := Run([]string{"@"}, "1 2"); out != "1\n2\n" || err != nil {
		t.Errorf("Run of what is right = %q, %v", out, err)
	}
	if said := (Failure{BadText, fault.At{Place: 2, Cause: fault.JSON}}).Error(); said != "the command ended: no JSON text, at 2" {
		t.Errorf("the failure says %q", said)
	}
}

func TestOrdered(t *testing.T) {
	for words, want := range map[string]order{
		"a": {expr: "a"}, "-": {expr: "-"}, "-u a": {expr: "a", plain: true}, "-n a": {expr: "a", noNull: true}, "-n -u -n a": {expr: "a", plain: true, noNull: true}, "-- a": {expr: "a"}, "-- -u": {expr: "-u"}, "-n -- --": {expr: "--", noNull: true}, "-u -- -n": {expr: "-n", plain: true},
	} {
		if o, err := ordered(strings.Split(words, " ")); o != want || err != nil {
			t.Errorf("ordered(%q) = %v, %v, want %v", words, o, err, want)
		}
	}
	for _, words := range []string{"-u", "--", "-x a", "-un a", "a -u", "a b", "a --", "-- a b", "-u --", "---"} {
		if o, err := ordered(strings.Split(words, " ")); o != (order{}) || err != fault.Args {
			t.Errorf("ordered(%q) = %v, %v", words, o, err)
		}
	}
	if o, err := ordered(nil); o != (order{}) || err != fault.Args {
		t.Errorf("ordered of nothing = %v, %v", o, err)
	}
}
