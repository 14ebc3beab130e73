package fault

import (
	"errors"
	"testing"
)

func TestAtWrapsItsCause(t *testing.T) {
	var err error = At{Place: 3, Cause: JSON}
	if !errors.Is(err, JSON) {
		t.Errorf("a fault at a place is its cause")
	}
	for _, other := range []error{Long, Syntax, Name, Arity, Large, Type, Args} {
		if errors.Is(err, other) {
			t.Errorf("a fault at a place is its cause, not %v", other)
		}
	}
	var at At
	if !errors.As(err, &at) || at.Place != 3 {
		t.Errorf("the place is %d, want 3", at.Place)
	}
	if errors.As(Large, &at) {
		t.Errorf("a fault without a place tells one")
	}
	if err.Error() != "no JSON text, at 3" {
		t.Errorf("the error says %q", err.Error())
	}
}
