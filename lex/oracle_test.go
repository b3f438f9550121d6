package lex_test

import (
	"math/big"
	"regexp"
	"slices"
	"strings"
	"testing"
	"unicode/utf8"

	"alembic/api"
	"alembic/lex"
)

// The forms of tokens, each at the beginning of a text.
var (
	nameForm   = regexp.MustCompile(`^[A-Za-z_][A-Za-z_0-9]*`)
	numberForm = regexp.MustCompile(`^[0-9][A-Za-z_0-9.]*`)
	intForm    = regexp.MustCompile(`^(0|[1-9][0-9]*|0[0-7]+|0[xX][0-9a-fA-F]+)([uU]?[lL]?|[lL][uU])$`)
	floatForm  = regexp.MustCompile(`^([0-9]+)\.([0-9]+)$`)
	escapeForm = regexp.MustCompile(`\\(?:[ntr0\\'"]|x[0-9a-fA-F]{2})`)
	charForm   = regexp.MustCompile(`^'(?:[^'\\\n]|` + escapeForm.String() + `)'`)
	textForm   = regexp.MustCompile(`^"(?:[^"\\\n]|` + escapeForm.String() + `)*"`)
	signForm   = regexp.MustCompile(`^(?:<<=|>>=|\+\+|--|->|<<|>>|<=|>=|==|!=|&&|\|\||[-+*/%&|^]=|[-+*/%&|^~!<>=?:;,.()\[\]{}])`)
	blankForm  = regexp.MustCompile(`^[ \t\r\n]+`)
)

// wantPlace is the place of an offset, counted from it backwards.
func wantPlace(text string, i int) api.Place {
	return at(1+strings.Count(text[:i], "\n"), 1+utf8.RuneCountInString(text[strings.LastIndexByte(text[:i], '\n')+1:i]))
}

// wantTokens is Tokens by forms, for texts that are UTF-8.
func wantTokens(text string) ([]api.Token, api.Place, api.Errno) {
	var tokens []api.Token
	i := 0
	for i < len(text) {
		if n := len(blankForm.FindString(text[i:])); n > 0 {
			i += n
			continue
		}
		token, errno := wantToken(text[i:])
		token.At = wantPlace(text, i)
		if errno != api.OK {
			return nil, token.At, errno
		}
		tokens = append(tokens, token)
		i += len(token.Text)
	}
	return append(tokens, api.Token{Kind: api.TokEnd, At: wantPlace(text, i)}), api.Place{}, api.OK
}

func wantToken(s string) (api.Token, api.Errno) {
	if x := nameForm.FindString(s); x != "" {
		switch {
		case len(x) > api.MaxName:
			return api.Token{}, api.ErrLimit
		case listed(words, x):
			return api.Token{Kind: api.TokWord, Text: x}, api.OK
		}
		return api.Token{Kind: api.TokName, Text: x}, api.OK
	}
	if x := numberForm.FindString(s); x != "" {
		return wantNumber(x)
	}
	if x := charForm.FindString(s); x != "" {
		inside := x[1 : len(x)-1]
		r, _ := utf8.DecodeRuneInString(inside)
		if r == '\\' {
			r = rune(wantEscape(inside)[0])
		}
		return api.Token{Kind: api.TokChar, Text: x, Bits: uint64(r)}, api.OK
	}
	if x := textForm.FindString(s); x != "" {
		return api.Token{Kind: api.TokText, Text: x, Data: escapeForm.ReplaceAllStringFunc(x[1:len(x)-1], wantEscape)}, api.OK
	}
	if x := signForm.FindString(s); x != "" {
		return api.Token{Kind: api.TokSign, Text: x}, api.OK
	}
	return api.Token{}, api.ErrToken
}

func wantNumber(s string) (api.Token, api.Errno) {
	if m := floatForm.FindStringSubmatch(s); m != nil && len(m[1])+len(m[2]) <= 15 {
		return api.Token{Kind: api.TokFloat, Text: s, Bits: wantFloat(m[1]+m[2], len(m[2]))}, api.OK
	}
	if m := intForm.FindStringSubmatch(s); m != nil {
		n, _ := new(big.Int).SetString(m[1], 0)
		if n.IsUint64() {
			return api.Token{Kind: api.TokInt, Text: s, Bits: n.Uint64()}, api.OK
		}
	}
	return api.Token{}, api.ErrToken
}

// wantEscape is an escape's byte.
func wantEscape(s string) string {
	if s[1] == 'x' {
		n, _ := new(big.Int).SetString(s[2:], 16)
		return string([]byte{byte(n.Int64())})
	}
	return map[byte]string{'n': "\n", 't': "\t", 'r': "\r", '0': "\x00", '\\': `\`, '\'': "'", '"': `"`}[s[1]]
}

// each tells of all texts of at most n of some pieces.
func each(pieces []string, n int, tell func(s string)) {
	tell("")
	if n == 0 {
		return
	}
	for _, p := range pieces {
		each(pieces, n-1, func(s string) { tell(p + s) })
	}
}

// P4.1, P4.2: all short texts of pieces that matter to one another.
func TestShortTexts(t *testing.T) {
	for _, x := range []struct {
		pieces string
		most   int
	}{
		{"0 1 8 x u L . a _", 5},
		{"0 7 9 X f U l .", 5},
		{"' \\ \n n a é", 6},
		{"\" \\ \n x 4 f '", 6},
		{"< > = - + & | !", 4},
		{"a 1 \" ' . ; \n \r é @ int < = \ufffd \\n", 4},
	} {
		pieces := append(strings.Split(x.pieces, " "), " ")
		each(pieces, x.most, func(s string) { checkAsOracle(t, s) })
	}
}

// P4.1, P4.2: longer texts, of a rule that scatters.
func TestScatteredTexts(t *testing.T) {
	pieces := []string{
		" ", "  ", "\n", "\t", "\r\n", "a", "int", "while", "x_1", "_", "0", "7", "08", "017", "0x1F", "1ul", "0lu", "1.5", "0.1", ".", "18446744073709551615", "99999999999999999999",
		"'a'", "'é'", `'\n'`, `'\x41'`, "'", `"`, `"é"`, `"\xff"`, `"a\"b"`, `\`, "é", "@", "++", "+", "-", "->", "<<=", "<", "=", "&", "|", "(", ")", "{", "}", ";", ",", "?", ":",
	}
	n := uint64(7)
	for range 60000 {
		var b strings.Builder
		for range 2 + n>>60 {
			n = n*6364136223846793005 + 1442695040888963407
			b.WriteString(pieces[n>>33%uint64(len(pieces))])
		}
		checkAsOracle(t, b.String())
	}
}

func checkAsOracle(t *testing.T, text string) {
	t.Helper()
	tokens, place, errno := lex.Tokens(text)
	want, wantAt, wantErr := wantTokens(text)
	if !slices.Equal(tokens, want) || place != wantAt || errno != wantErr {
		t.Fatalf("%q: %v, error %d at %v, not %v, %d at %v", text, tokens, errno, place, want, wantErr, wantAt)
	}
	if errno == api.OK {
		checkLaws(t, text, tokens)
	}
}

// checkLaws asks what P4.2 says of a text and its tokens.
func checkLaws(t *testing.T, text string, tokens []api.Token) {
	t.Helper()
	rest, spaced := text, ""
	for i, k := range tokens {
		if i > 0 {
			before := tokens[i-1].At
			if k.At.Line < before.Line || k.At.Line == before.Line && k.At.Col <= before.Col {
				t.Fatalf("%q: %v isn't behind %v", text, k.At, before)
			}
		}
		found := false
		rest, found = strings.CutPrefix(strings.TrimLeft(rest, " \t\r\n"), k.Text)
		if !found {
			t.Fatalf("%q: %q doesn't stand there", text, k.Text)
		}
		spaced += k.Text + " "
	}
	if rest != "" {
		t.Fatalf("%q: %q is left", text, rest)
	}
	again, _, errno := lex.Tokens(spaced)
	same := func(a, b api.Token) bool {
		a.At, b.At = api.Place{}, api.Place{}
		return a == b
	}
	if errno != api.OK || !slices.EqualFunc(tokens, again, same) {
		t.Fatalf("%q, with blanks between %q: %v, error %d", text, spaced, again, errno)
	}
}

// P4.1: what is told hangs on the text alone, whatever was asked before.
func TestAsksAgain(t *testing.T) {
	text := "int f(int a) { return a + 0x10 + 'é' + \"é\\n\"[0] + 1.5; }"
	first, _, _ := lex.Tokens(text)
	kept := slices.Clone(first)
	for _, s := range []string{"", "\xff", "$", "b c d", strings.Repeat("x ", 100), text} {
		if tokens, _, _ := lex.Tokens(s); len(tokens) > 0 {
			clear(tokens)
		}
	}
	again, place, errno := lex.Tokens(text)
	if errno != api.OK || place != (api.Place{}) || !slices.Equal(again, kept) || !slices.Equal(first, kept) {
		t.Errorf("%v, then %v", kept, again)
	}
}
