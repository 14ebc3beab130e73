package reader

import (
	"strconv"
	"strings"

	"pluck/api"
	"pluck/value"
)

const (
	// farthest is a power of ten that no row of digits makes up for.
	farthest = 1 << 40
	// mostNoughts is how many value.Limit has: with more, any digit is beyond it.
	mostNoughts = 15
	// numeric are the bytes that numbers are made of.
	numeric = "0123456789+-.eE"
)

// Number is what a text says that is a JSON number and nothing else, and
// whether it is that, and there is such a Number.
func Number(text string) (value.Number, bool) {
	r := reader{text: text}
	if err := r.numeral(); err != nil || r.at < len(text) {
		return 0, false
	}
	return exact(text)
}

func (r *reader) number() (value.Value, error) {
	from := r.at
	if err := r.numeral(); err != nil {
		return nil, err
	}
	// Where texts may touch, `1-2` would else be two of them.
	if strings.IndexByte(numeric, r.peek()) >= 0 {
		return nil, r.wrong()
	}
	n, ok := exact(r.text[from:r.at])
	if !ok {
		r.large = true
	}
	return n, nil
}

// numeral passes the text of a number.
func (r *reader) numeral() error {
	r.take('-')
	if !r.take('0') {
		if err := r.digits(); err != nil {
			return err
		}
	}
	if r.take('.') {
		if err := r.digits(); err != nil {
			return err
		}
	}
	if r.take('e') || r.take('E') {
		if !r.take('+') {
			r.take('-')
		}
		return r.digits()
	}
	return nil
}

func (r *reader) digits() error {
	if !isDigit(r.peek()) {
		return r.wrong()
	}
	for isDigit(r.peek()) {
		r.at++
	}
	return nil
}

func isDigit(b byte) bool { return '0' <= b && b <= '9' }

// exact is what the text of a number says, and whether there is such a Number.
func exact(text string) (value.Number, bool) {
	unsigned, negative := strings.CutPrefix(text, "-")
	mantissa, exponent := unsigned, ""
	if at := strings.IndexAny(unsigned, "eE"); at >= 0 {
		mantissa, exponent = unsigned[:at], unsigned[at+1:]
	}
	whole, fraction, _ := strings.Cut(mantissa, ".")
	digits := strings.TrimLeft(whole+fraction, "0")
	core := strings.TrimRight(digits, "0")
	if core == "" {
		return 0, true
	}
	// In millionths the number is core with so many noughts behind it.
	noughts := power(exponent) + int64(len(digits)-len(core)-len(fraction)+api.Places)
	if noughts < 0 || noughts > mostNoughts {
		return 0, false
	}
	n, err := strconv.ParseInt(core+strings.Repeat("0", int(noughts)), 10, 64)
	if err != nil || n > value.Limit {
		return 0, false
	}
	if negative {
		n = -n
	}
	return value.Number(n), true
}

// power is what an exponent says, but no farther from 0 than farthest.
func power(exponent string) int64 {
	digits, negative := strings.CutPrefix(exponent, "-")
	digits = strings.TrimPrefix(digits, "+")
	var p int64
	for i := range len(digits) {
		p = min(p*10+int64(digits[i]-'0'), farthest)
	}
	if negative {
		return -p
	}
	return p
}
