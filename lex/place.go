package lex

import (
	"strings"
	"unicode/utf8"

	"alembic/api"
)

// first is where a text begins.
func first() api.Place {
	return api.Place{Line: 1, Col: 1}
}

// behind is the place behind a rune that stands at a place.
func behind(at api.Place, r rune) api.Place {
	if r == '\n' {
		return api.Place{Line: at.Line + 1, Col: 1}
	}
	return api.Place{Line: at.Line, Col: at.Col + 1}
}

// brokenAt is where the first bytes stand that are no rune, and whether there are such.
func brokenAt(text string) (api.Place, bool) {
	at := first()
	for i, r := range text {
		// the rune that stands for broken bytes may also stand in the text by itself
		if r == utf8.RuneError && !strings.HasPrefix(text[i:], string(utf8.RuneError)) {
			return at, true
		}
		at = behind(at, r)
	}
	return api.Place{}, false
}
