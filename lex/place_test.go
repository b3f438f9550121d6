package lex_test

import (
	"strings"
	"testing"
	"unicode/utf8"

	"alembic/api"
	"alembic/lex"
)

// P4.1: lines and columns are counted in runes, from 1 on.
func TestPlaces(t *testing.T) {
	for _, x := range []struct {
		ahead string
		at    api.Place
	}{
		{"", at(1, 1)}, {" ", at(1, 2)}, {"\t", at(1, 2)}, {"\r", at(1, 2)}, {"\n", at(2, 1)}, {"\r\n", at(2, 1)}, {"\n\r", at(2, 2)},
		{"\n\n\n  ", at(4, 3)}, {"a\n", at(2, 1)}, {"a ", at(1, 3)}, {"a\n b\n  ", at(3, 3)},
		{"'é'", at(1, 4)}, {"'€'", at(1, 4)}, {"'😀'", at(1, 4)}, {`"é€😀"`, at(1, 6)}, {"\n\"é\" \"é\" ", at(2, 9)}, {`'\n'`, at(1, 5)}, {`"\n"`, at(1, 5)}, {"\"\ufffd\"", at(1, 4)},
		{strings.Repeat("\n", 5000), at(5001, 1)}, {strings.Repeat(" ", 5000), at(1, 5001)}, {`"` + strings.Repeat("é", 5000) + `"`, at(1, 5003)},
	} {
		tokens, _, errno := lex.Tokens(x.ahead + ";")
		if errno != api.OK || len(tokens) < 2 {
			t.Errorf("%.80q: %v, error %d", x.ahead, tokens, errno)
			continue
		}
		sign, end := tokens[len(tokens)-2], tokens[len(tokens)-1]
		if sign.At != x.at || end.At != at(x.at.Line, x.at.Col+1) {
			t.Errorf("%.80q: what is behind it stands at %v, the end at %v", x.ahead, sign.At, end.At)
		}
		checkError(t, x.ahead+"$", api.ErrToken, x.at)
		checkError(t, x.ahead+"09", api.ErrToken, x.at)
		checkError(t, x.ahead+"\x80", api.ErrText, x.at)
	}
}

// P4.1: bytes that are no rune of UTF-8, wherever they stand.
func TestBrokenBytes(t *testing.T) {
	for _, s := range []string{
		"\x80", "\xbf", "\xc0\x80", "\xc1\xbf", "\xc3", "\xc3(", "\xe2\x82", "\xe2\x28\xa1", "\xe0\x80\x80", "\xe0\x9f\xbf", "\xed\xa0\x80", "\xed\xbf\xbf",
		"\xef\xbf", "\xf0\x9f\x98", "\xf0\x80\x80\x80", "\xf4\x90\x80\x80", "\xf5\x80\x80\x80", "\xf8\x88\x80\x80\x80", "\xfe", "\xff",
	} {
		checkError(t, s, api.ErrText, at(1, 1))
		checkError(t, s+"\n"+s, api.ErrText, at(1, 1))
		checkError(t, "int x; \n\"é"+s+"\"", api.ErrText, at(2, 3))
		checkError(t, "'"+s+"'", api.ErrText, at(1, 2))
		checkError(t, "\ufffd"+s, api.ErrText, at(1, 2))
		checkError(t, "é\n"+s+" ", api.ErrText, at(2, 1))
		// looked at ahead of all tokens
		checkError(t, "$ 09 ''\n"+strings.Repeat("a", api.MaxName+1)+"\n \""+s, api.ErrText, at(3, 3))
	}
}

// P4.1: texts as long as may be, and longer ones.
func TestTextLength(t *testing.T) {
	blanks := strings.Repeat(" ", api.MaxText)
	checkTokens(t, blanks, api.Token{Kind: api.TokEnd, At: at(1, api.MaxText+1)})
	checkTokens(t, blanks[1:]+"a",
		api.Token{Kind: api.TokName, At: at(1, api.MaxText), Text: "a"},
		api.Token{Kind: api.TokEnd, At: at(1, api.MaxText+1)})
	checkError(t, blanks[1:]+"$", api.ErrToken, at(1, api.MaxText))
	checkError(t, blanks[1:]+"\xff", api.ErrText, at(1, api.MaxText))
	two := strings.Repeat("\n\u00e9", api.MaxText/utf8.RuneLen('\u00e9'))
	for _, s := range []string{blanks + " ", blanks + "a", blanks + "$", blanks + "\xff", "\xff" + blanks, "$" + blanks, two, blanks + blanks} {
		checkError(t, s, api.ErrText, api.Place{})
	}
	for _, s := range []string{";", "a ", "\n+", "'é'\"\""} {
		n := api.MaxText / len(s)
		tokens, _, errno := lex.Tokens(strings.Repeat(s, n))
		one, _, _ := lex.Tokens(s)
		if errno != api.OK || len(tokens) != n*(len(one)-1)+1 {
			t.Errorf("%d times %q: %d tokens, error %d", n, s, len(tokens), errno)
		}
	}
	for _, q := range []string{`"`, "'"} {
		checkError(t, q+blanks[1:], api.ErrToken, at(1, 1))
	}
	inside := strings.Repeat(`\x41é`, (api.MaxText-2)/6)
	s := `"` + inside + `"`
	checkTokens(t, s,
		api.Token{Kind: api.TokText, At: at(1, 1), Text: s, Data: strings.Repeat("Aé", (api.MaxText-2)/6)},
		api.Token{Kind: api.TokEnd, At: at(1, 3+utf8.RuneCountInString(inside))})
	zeros := strings.Repeat("0", api.MaxText-2) + "17"
	checkTokens(t, zeros,
		api.Token{Kind: api.TokInt, At: at(1, 1), Text: zeros, Bits: 15},
		api.Token{Kind: api.TokEnd, At: at(1, api.MaxText+1)})
	for _, s := range []string{strings.Repeat("9", api.MaxText), strings.Repeat("1.", api.MaxText/2), strings.Repeat("1u", api.MaxText/2)} {
		checkError(t, s, api.ErrToken, at(1, 1))
	}
	checkError(t, strings.Repeat("a", api.MaxText), api.ErrLimit, at(1, 1))
}
