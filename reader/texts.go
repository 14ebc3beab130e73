package reader

import (
	"iter"

	"pluck/api"
	"pluck/fault"
	"pluck/value"
)

// Texts are the values of the JSON texts that stand one behind the other in the
// input. A fault is the last thing that it tells: where the next text would
// begin is not known then.
func Texts(input string) iter.Seq2[value.Value, error] {
	return func(yield func(value.Value, error) bool) {
		r := reader{text: input}
		for r.blanks(); r.at < len(r.text); r.blanks() {
			v, err := r.one()
			if !yield(v, err) || err != nil {
				return
			}
		}
	}
}

// one reads a text that others may stand behind. The blanks around it do not
// count to its length.
func (r *reader) one() (value.Value, error) {
	from := r.at
	v, err := r.value()
	if err != nil {
		return nil, err
	}
	if r.at-from > api.MaxJSON {
		return nil, fault.Long
	}
	if r.large {
		return nil, fault.Large
	}
	return v, nil
}
