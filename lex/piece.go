package lex

import (
	"alembic/api"
)

// piece is the token at the beginning of a text, whose first rune is r, without its place.
func piece(text string, r rune) (api.Token, api.Errno) {
	switch {
	case isLetter(r):
		return nameToken(text)
	case isDigit(r):
		return numberToken(text)
	case r == '\'':
		return charToken(text)
	case r == '"':
		return textToken(text)
	}
	return signToken(text)
}

func nameToken(text string) (api.Token, api.Errno) {
	s := text[:span(text, isOfName)]
	if len(s) > api.MaxName {
		return api.Token{}, api.ErrLimit
	}
	if Word(s) {
		return api.Token{Kind: api.TokWord, Text: s}, api.OK
	}
	return api.Token{Kind: api.TokName, Text: s}, api.OK
}

func signToken(text string) (api.Token, api.Errno) {
	const longest = 3
	for n := min(longest, len(text)); n > 0; n-- {
		if Sign(text[:n]) {
			return api.Token{Kind: api.TokSign, Text: text[:n]}, api.OK
		}
	}
	return api.Token{}, api.ErrToken
}

// span is how many bytes the runes at the beginning of a text have that go on, up to the first one that doesn't.
func span(text string, goesOn func(r rune) bool) int {
	for i, r := range text {
		if !goesOn(r) {
			return i
		}
	}
	return len(text)
}

func isBlank(r rune) bool {
	return r == ' ' || r == '\t' || r == '\r' || r == '\n'
}

func isLetter(r rune) bool {
	return r >= 'a' && r <= 'z' || r >= 'A' && r <= 'Z' || r == '_'
}

func isDigit(r rune) bool {
	return r >= '0' && r <= '9'
}

// isOfName tells whether a rune may stand in a name behind its first one.
func isOfName(r rune) bool {
	return isLetter(r) || isDigit(r)
}
