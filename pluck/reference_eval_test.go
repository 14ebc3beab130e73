package pluck_test

import (
	"math/big"
	"slices"
	"strconv"
	"strings"

	"pluck/api"
)

// reference is what Eval must answer, by the text that Show tells.
func reference(shownText, json string) (out string, errno api.Errno) {
	defer func() {
		if e, ok := recover().(api.Errno); ok {
			out, errno = "", e
		}
	}()
	s := shown{shownText}
	return written(s.part().of(decoded(json))), api.OK
}

func (p part) of(current any) any {
	switch p.sign {
	case "@":
		return current
	case "raw":
		return []rune(p.text)
	case "literal":
		return decoded(p.text)
	case "name":
		if object, ok := current.(*members); ok {
			return object.values[p.text]
		}
		return nil
	case "|":
		return p.parts[1].of(p.parts[0].of(current))
	case "||", "&&":
		left := p.parts[0].of(current)
		if isFalse(left) == (p.sign == "||") {
			return p.parts[1].of(current)
		}
		return left
	case "!":
		return isFalse(p.parts[0].of(current))
	case "==", "!=", "<", "<=", ">", ">=":
		return compared(p.sign, p.parts[0].of(current), p.parts[1].of(current))
	case "list":
		return p.list(current)
	case "object":
		return p.object(current)
	case ".":
		return chained(p.parts, current)
	case "*", "bracket", "filter":
		return chained([]part{p}, current)
	}
	return callOf(p, current)
}

func compared(sign string, a, b any) any {
	if sign == "==" || sign == "!=" {
		return (inOrder(a) == inOrder(b)) == (sign == "==")
	}
	x, ok := a.(*big.Rat)
	y, both := b.(*big.Rat)
	if !ok || !both {
		return nil
	}
	c := x.Cmp(y)
	return c < 0 && sign[0] == '<' || c > 0 && sign[0] == '>' || c == 0 && len(sign) == 2
}

func (p part) list(current any) any {
	if current == nil {
		return nil
	}
	list, weight := []any{}, 1
	for _, thing := range p.parts {
		v := thing.of(current)
		list = append(list, v)
		weight += weighed(v)
		bear(weight)
	}
	return list
}

func (p part) object(current any) any {
	if current == nil {
		return nil
	}
	object := newMembers()
	for _, member := range p.parts {
		object.set(member.text, member.parts[0].of(current))
		bear(weighed(object))
	}
	return object
}

// chained looks from the right: what is behind the last `[]`, then all that is
// ahead of it, as a chain by itself.
func chained(parts []part, current any) any {
	for i := len(parts) - 1; i >= 0; i-- {
		if parts[i].sign == "bracket" && parts[i].text == "" {
			ahead := current
			if i > 0 {
				ahead = chained(parts[:i], current)
			}
			list, ok := ahead.([]any)
			if !ok {
				return nil
			}
			var flat []any
			for _, thing := range list {
				if inner, ok := thing.([]any); ok {
					flat = append(flat, inner...)
				} else {
					flat = append(flat, thing)
				}
			}
			return projected(flat, parts[i+1:])
		}
	}
	for i, p := range parts {
		if p.sign == "*" || p.sign == "filter" || p.sign == "bracket" && strings.ContainsAny(p.text, "*:") {
			through, ok := p.through(current)
			if !ok {
				return nil
			}
			return projected(through, parts[i+1:])
		}
		if p.sign == "bracket" {
			current = indexed(current, p.text)
		} else {
			current = p.of(current)
		}
	}
	return current
}

func projected(things []any, rest []part) any {
	list, weight := []any{}, 1
	for _, thing := range things {
		if v := chained(rest, thing); v != nil {
			list = append(list, v)
			weight += weighed(v)
			bear(weight)
		}
	}
	return list
}

func indexed(current any, text string) any {
	list, _ := current.([]any)
	at, _ := strconv.Atoi(text)
	for i, thing := range list {
		if i == at || i == at+len(list) {
			return thing
		}
	}
	return nil
}

func (p part) through(current any) ([]any, bool) {
	if p.sign == "*" {
		object, ok := current.(*members)
		var all []any
		for i := 0; ok && i < len(object.keys); i++ {
			all = append(all, object.values[object.keys[i]])
		}
		return all, ok
	}
	list, ok := current.([]any)
	if !ok || p.text == "*" {
		return list, ok
	}
	var all []any
	if p.sign == "filter" {
		for _, thing := range list {
			if !isFalse(p.parts[0].of(thing)) {
				all = append(all, thing)
			}
		}
		return all, true
	}
	bounds := strings.Split(p.text, ":")
	places := sliced(len(list), bounds[0], bounds[1], bounds[2])
	for _, at := range strings.FieldsFunc(places, func(r rune) bool { return strings.ContainsRune("[,]", r) }) {
		i, _ := strconv.Atoi(at)
		all = append(all, list[i])
	}
	return all, true
}

// kindsOf are the words of takes for a value.
func kindsOf(v any) string {
	switch v := v.(type) {
	case *big.Rat:
		return "any num"
	case []rune:
		return "any str"
	case *members:
		return "any obj"
	case []any:
		kinds := "any list"
		if !slices.ContainsFunc(v, func(thing any) bool { return kindsOf(thing) != "any num" }) {
			kinds += " nums"
		}
		if !slices.ContainsFunc(v, func(thing any) bool { return kindsOf(thing) != "any str" }) {
			kinds += " strs"
		}
		return kinds
	}
	return "any"
}
