package reader

import (
	"errors"
	"strings"
	"testing"

	"pluck/fault"
	"pluck/value"
)

func TestExact(t *testing.T) {
	for text, want := range map[string]value.Number{
		"0": 0, "-0": 0, "0e99999999999999999999": 0, "-0.000e-99999999999999999999": 0,
		"1e-6": 1, "-1e-6": -1, "0.000001": 1, "1": value.Unit, "1000000000": value.Limit, "-1E+9": -value.Limit,
		"999999999.999999":                          value.Limit - 1,
		"0." + strings.Repeat("0", 5000) + "1e5001": value.Unit,
		"1" + strings.Repeat("0", 5000) + "e-5006":  1,
		"1" + strings.Repeat("0", 5000) + "e-4991":  value.Limit,
	} {
		if n, ok := exact(text); n != want || !ok {
			t.Errorf("exact(%.40q) = %d, %t, want %d", text, n, ok, want)
		}
	}
	for _, text := range []string{
		"1000000000.000001", "-1000000001", "1e10", "9e9", "1e-7", "0.0000009", "1.0000001", "1e99999999999999999999", "1e-99999999999999999999",
		"9223372036854775808", "18446744073709551617", "1e18446744073709551616", "1e-18446744073709551616",
		"0." + strings.Repeat("0", 5000) + "1e99999999999999999999",
		"1" + strings.Repeat("0", 5000) + "e-5007",
		"1" + strings.Repeat("0", 5000) + "e-4990",
	} {
		if n, ok := exact(text); n != 0 || ok {
			t.Errorf("exact(%.40q) = %d, %t, want none", text, n, ok)
		}
	}
}

func TestNumber(t *testing.T) {
	for text, want := range map[string]value.Number{
		"0": 0, "-0": 0, "1.50": 1500000, "-2e1": -20000000, "1E+0": value.Unit, "1000000000": value.Limit, "0.0000010": 1,
	} {
		if n, ok := Number(text); n != want || !ok {
			t.Errorf("Number(%q) = %d, %t, want %d", text, n, ok, want)
		}
	}
	for _, text := range []string{
		"", "-", "+1", "01", "1.", ".5", "1e", "1e+", "--1", " 1", "1 ", "1\x00", "1,", "0x1", "1_0", "1e1.5", "Infinity", "NaN", "null", "\"1\"", "[1]", "١", "1e10", "1e-7", "1000000000.000001",
	} {
		if n, ok := Number(text); n != 0 || ok {
			t.Errorf("Number(%q) = %d, %t, want none", text, n, ok)
		}
	}
}

func TestTextFaults(t *testing.T) {
	_, err := Text("[1,]")
	var at fault.At
	if !errors.Is(err, fault.JSON) || !errors.As(err, &at) || at.Place != 3 {
		t.Errorf("of what is no JSON text: %v", err)
	}
	if _, err := Text("1e10"); err != fault.Large {
		t.Errorf("of a number that is none: %v", err)
	}
	if _, err := Text(strings.Repeat(" ", 1001)); err != fault.Long {
		t.Errorf("of 1001 bytes: %v", err)
	}
}

func TestQuoted(t *testing.T) {
	for text, want := range map[string]struct {
		said string
		size int
	}{
		`""`: {"", 2}, `"a" "b"`: {"a", 3}, `"\u0061\"]" x`: {`a"]`, 11}, `"é"""`: {"é", 4},
	} {
		if s, size, err := Quoted(text); s != want.said || size != want.size || err != nil {
			t.Errorf("Quoted(%q) = %q, %d, %v, want %q, %d", text, s, size, err, want.said, want.size)
		}
	}
	for _, text := range []string{"", "a", ` "a"`, `"a`, `"\x"`, "\"\xff\"", `"\ud800"`} {
		if s, size, err := Quoted(text); s != "" || size != 0 || !errors.Is(err, fault.JSON) {
			t.Errorf("Quoted(%q) = %q, %d, %v", text, s, size, err)
		}
	}
}
