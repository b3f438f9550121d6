package lex_test

import (
	"strings"
	"testing"

	"alembic/api"
	"alembic/lex"
)

const (
	words = "break case char continue default do double else extern for goto if int long return short signed sizeof struct switch union unsigned void while"
	signs = "<<= >>= ++ -- -> << >> <= >= == != && || += -= *= /= %= &= |= ^= + - * / % & | ^ ~ ! < > = ? : ; , . ( ) [ ] { }"
)

// listed tells whether a text is one of a list that stands with blanks between.
func listed(list, s string) bool {
	for _, x := range strings.Fields(list) {
		if x == s {
			return true
		}
	}
	return false
}

// P4.1: the reserved words, and what is near to them.
func TestWord(t *testing.T) {
	for _, w := range strings.Fields(words) {
		if !lex.Word(w) {
			t.Errorf("%q is no word", w)
		}
		checkOne(t, api.Token{Kind: api.TokWord, Text: w})
		for i := range len(w) {
			for _, s := range []string{w[:i], w[i+1:], w[:i] + w[i+1:], w[:i] + strings.ToUpper(w[i:i+1]) + w[i+1:], w + w[i:], w[:i] + " " + w[i:]} {
				if lex.Word(s) != listed(words, s) {
					t.Errorf("Word(%q) is %v", s, lex.Word(s))
				}
			}
		}
		for _, s := range []string{w + " ", " " + w, w + "_", w + "\x00", w + "s", strings.ToUpper(w)} {
			if lex.Word(s) {
				t.Errorf("%q is a word", s)
			}
		}
	}
	for _, s := range []string{"", " ", "float", "const", "typedef", "enum", "static", "auto", "register", "volatile", "inline", "restrict", "bool", "main", "NULL", "\xff", "+", words} {
		if lex.Word(s) {
			t.Errorf("%q is a word", s)
		}
	}
}

// P4.1: the signs, of all texts of few signs, and as tokens.
func TestSign(t *testing.T) {
	for _, s := range strings.Fields(signs) {
		if !lex.Sign(s) {
			t.Errorf("%q is no sign", s)
		}
		checkOne2(t, s)
	}
	all, last := []string{""}, []string{""}
	for range 3 {
		var next []string
		for _, s := range last {
			for _, c := range "+-*/%&|^~!<>=?:;,.()[]{}#$@\\'\"`a1_ \xff" {
				next = append(next, s+string(c))
			}
		}
		all, last = append(all, next...), next
	}
	for _, s := range append(all, "<<=<", ">>>=", signs, "\xff", "é", "int") {
		if lex.Sign(s) != listed(signs, s) {
			t.Errorf("Sign(%q) is %v", s, lex.Sign(s))
		}
	}
}

// checkOne2 asks for a sign as a token between names, where nothing is put to it.
func checkOne2(t *testing.T, s string) {
	t.Helper()
	n := len(s)
	checkTokens(t, "a"+s+"b",
		api.Token{Kind: api.TokName, At: at(1, 1), Text: "a"},
		api.Token{Kind: api.TokSign, At: at(1, 2), Text: s},
		api.Token{Kind: api.TokName, At: at(1, n+2), Text: "b"},
		api.Token{Kind: api.TokEnd, At: at(1, n+3)})
	checkTokens(t, s,
		api.Token{Kind: api.TokSign, At: at(1, 1), Text: s},
		api.Token{Kind: api.TokEnd, At: at(1, n+1)})
}
