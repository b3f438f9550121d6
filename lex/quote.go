package lex

import (
	"strconv"
	"strings"
	"unicode/utf8"

	"alembic/api"
)

func charToken(text string) (api.Token, api.Errno) {
	n, ok := quoted(text, '\'')
	if !ok {
		return api.Token{}, api.ErrToken
	}
	r, ok := onlyRune(text[1 : n-1])
	if !ok {
		return api.Token{}, api.ErrToken
	}
	return api.Token{Kind: api.TokChar, Text: text[:n], Bits: uint64(r)}, api.OK
}

func textToken(text string) (api.Token, api.Errno) {
	n, ok := quoted(text, '"')
	if !ok {
		return api.Token{}, api.ErrToken
	}
	data, ok := bytesOf(text[1 : n-1])
	if !ok {
		return api.Token{}, api.ErrToken
	}
	return api.Token{Kind: api.TokText, Text: text[:n], Data: data}, api.OK
}

// quoted is how many bytes a text that begins with a quote has up to the next one, both counted; false, if its line has no other one. What stands behind a backslash ends nothing.
func quoted(text string, quote rune) (int, bool) {
	escaped := false
	inside := span(text[1:], func(r rune) bool {
		if r == '\n' || r == quote && !escaped {
			return false
		}
		escaped = r == '\\' && !escaped
		return true
	})
	end := 1 + inside
	if end == len(text) || rune(text[end]) != quote {
		return 0, false
	}
	return end + 1, true
}

// onlyRune is the one rune or escape that stands between quotes; false, if there isn't just one.
func onlyRune(inside string) (rune, bool) {
	if s, ok := strings.CutPrefix(inside, `\`); ok {
		c, n := escape(s)
		return rune(c), n > 0 && n == len(s)
	}
	r, n := utf8.DecodeRuneInString(inside)
	return r, n > 0 && n == len(inside)
}

// bytesOf is what the runes and escapes between quotes come to; false, if a backslash begins no escape.
func bytesOf(inside string) (string, bool) {
	var b strings.Builder
	for {
		plain, s, found := strings.Cut(inside, `\`)
		b.WriteString(plain)
		if !found {
			return b.String(), true
		}
		c, n := escape(s)
		if n == 0 {
			return "", false
		}
		b.WriteByte(c)
		inside = s[n:]
	}
}

// escape is the byte for which the text behind a backslash stands, and of how many bytes of it; of none, if it is no escape.
func escape(s string) (byte, int) {
	if s == "" {
		return 0, 0
	}
	switch s[0] {
	case 'n':
		return '\n', 1
	case 't':
		return '\t', 1
	case 'r':
		return '\r', 1
	case '0':
		return 0, 1
	case '\\', '\'', '"':
		return s[0], 1
	case 'x':
		return escapedByte(s[1:])
	}
	return 0, 0
}

// escapedByte is the byte of the two digits of sixteen that stand behind an x, and how many bytes it takes with the x.
func escapedByte(s string) (byte, int) {
	const digits = 2
	if len(s) < digits {
		return 0, 0
	}
	n, err := strconv.ParseUint(s[:digits], 16, 8)
	if err != nil {
		return 0, 0
	}
	return byte(n), 1 + digits
}
