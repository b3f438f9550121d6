package lex

import (
	"math"
	"strconv"
	"strings"

	"alembic/api"
)

// maxDigits is how many digits in tens, and how many tens in a divisor, a double surely holds without a loss.
const maxDigits = 15

// Float is a number with a point, as a double's bits.
func Float(digits string, point int) (uint64, bool) {
	if len(digits) > maxDigits || point < 0 || point > maxDigits {
		return 0, false
	}
	n, err := strconv.ParseUint(digits, 10, 64)
	if err != nil {
		return 0, false
	}
	// both are doubles, so that the one division is all that rounds
	return math.Float64bits(float64(n) / tenTo(point)), true
}

// tenTo is a power of 10, up to 10^maxDigits.
func tenTo(power int) float64 {
	n := 1
	for range power {
		n *= 10
	}
	return float64(n)
}

func numberToken(text string) (api.Token, api.Errno) {
	s := text[:span(text, func(r rune) bool { return isOfName(r) || r == '.' })]
	if bits, ok := whole(s); ok {
		return api.Token{Kind: api.TokInt, Text: s, Bits: bits}, api.OK
	}
	if bits, ok := fraction(s); ok {
		return api.Token{Kind: api.TokFloat, Text: s, Bits: bits}, api.OK
	}
	return api.Token{}, api.ErrToken
}

// whole is the value of a TokInt; false, if a text isn't of its form.
func whole(s string) (uint64, bool) {
	digits := strings.TrimRight(s, "uUlL")
	if !isSuffix(s[len(digits):]) {
		return 0, false
	}
	base := 10
	switch {
	case strings.HasPrefix(digits, "0x"), strings.HasPrefix(digits, "0X"):
		base, digits = 16, digits[len("0x"):]
	case len(digits) > 1 && digits[0] == '0':
		base, digits = 8, digits[1:]
	}
	n, err := strconv.ParseUint(digits, base, 64)
	if err != nil {
		return 0, false
	}
	return n, true
}

// isSuffix tells whether letters may stand behind a whole number's digits.
func isSuffix(s string) bool {
	switch strings.ToLower(s) {
	case "", "u", "l", "ul", "lu":
		return true
	}
	return false
}

// fraction is the value of a TokFloat; false, if a text, which begins with a digit, isn't of its form.
func fraction(s string) (uint64, bool) {
	before, after, found := strings.Cut(s, ".")
	if !found || after == "" {
		return 0, false
	}
	return Float(before+after, len(after))
}
