package command

import (
	"strings"

	"pluck/fault"
)

// An order is what the args ask for.
type order struct {
	expr   string
	plain  bool // a string is told as it is
	noNull bool // null is not told
}

func ordered(args []string) (order, error) {
	var o order
	for i, arg := range args {
		switch {
		case arg == "--":
			return o.of(args[i+1:])
		case arg == "-u":
			o.plain = true
		case arg == "-n":
			o.noNull = true
		case isOption(arg):
			return order{}, fault.Args
		default:
			return o.of(args[i:])
		}
	}
	return order{}, fault.Args
}

// isOption is not so of `-` alone: that is taken for an expression.
func isOption(arg string) bool { return len(arg) > 1 && strings.HasPrefix(arg, "-") }

// of is the order with what stands behind the options.
func (o order) of(rest []string) (order, error) {
	if len(rest) != 1 {
		return order{}, fault.Args
	}
	o.expr = rest[0]
	return o, nil
}
