package reader

import (
	"errors"
	"strings"
	"testing"

	"pluck/fault"
	"pluck/value"
)

// told has the texts of the input, with bars between, and the fault that ends it.
func told(input string) (string, error) {
	var texts []string
	var fault error
	for v, err := range Texts(input) {
		if err != nil {
			fault = err
		} else {
			texts = append(texts, value.Text(v))
		}
	}
	return strings.Join(texts, "|"), fault
}

func TestTexts(t *testing.T) {
	for input, want := range map[string]string{
		"": "", " \n": "", "1": "1", " 1 2 ": "1|2", "[1]2[3]": "[1]|2|[3]", "nulltrue": "null|true", `"a""b"`: `"a"|"b"`, "1.0null-2e1": "1|null|-20",
		strings.Repeat(" ", 2000) + "1" + strings.Repeat(" ", 2000): "1",
	} {
		if got, err := told(input); got != want || err != nil {
			t.Errorf("Texts(%.60q) = %s, %v, want %s", input, got, err, want)
		}
	}
}

func TestTextsFaults(t *testing.T) {
	for _, c := range []struct {
		input, want string
		fault       error
		place       int
	}{
		{"x", "", fault.JSON, 0}, {"1 x", "1", fault.JSON, 2}, {"[1] [1,] 2", "[1]", fault.JSON, 7}, {"1 [", "1", fault.JSON, 3}, {"2 1-2 3", "2", fault.JSON, 3}, {"1e", "", fault.JSON, 2}, {"true1+", "true", fault.JSON, 5},
		{"1 1e10 2", "1", fault.Large, 0}, {"[1e-7]", "", fault.Large, 0},
		{`1"` + strings.Repeat("a", 999) + `"2`, "1", fault.Long, 0},
	} {
		got, err := told(c.input)
		var at fault.At
		errors.As(err, &at)
		if got != c.want || !errors.Is(err, c.fault) || at.Place != c.place {
			t.Errorf("Texts(%.60q) = %s, %v, want %s, %v, at %d", c.input, got, err, c.want, c.fault, c.place)
		}
	}
}

func TestTextsMayBeLeft(t *testing.T) {
	seen := 0
	for range Texts("1 2 3 x") {
		seen++
		if seen == 2 {
			break
		}
	}
	if seen != 2 {
		t.Errorf("%d were seen", seen)
	}
}
