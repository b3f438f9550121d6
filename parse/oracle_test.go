package parse_test

import (
	"strings"
	"testing"
	"unicode/utf8"

	"alembic/api"
	"alembic/lex"
	"alembic/parse"
)

// stopOf is the number of the first token with which nothing can go on, by Parse; below 0, if there is none.
func stopOf(t *testing.T, text string, tokens []api.Token) int {
	t.Helper()
	trees, place, errno := parse.Parse(text)
	switch errno {
	case api.OK:
		if place != (api.Place{}) {
			t.Fatalf("%q: the place %v", text, place)
		}
		return -1
	case api.ErrLimit:
		return -1
	case api.ErrSyntax:
		if len(trees) != 0 {
			t.Fatalf("%q: %d trees beside an error", text, len(trees))
		}
	}
	for i, k := range tokens {
		if k.At == place {
			return i
		}
	}
	t.Fatalf("%q: error %d at %v, where no token stands", text, errno, place)
	return 0
}

// wantStop is the same by the grammar.
func wantStop(r *rules, tokens []api.Token) int {
	c := newChart(r)
	for i, k := range tokens {
		if k.Kind == api.TokEnd {
			break
		}
		if !c.push(wordOf(k)) {
			return i
		}
	}
	if c.ends() {
		return -1
	}
	return len(tokens) - 1
}

func checkAsGrammar(t *testing.T, r *rules, text string) {
	t.Helper()
	tokens, _, errno := lex.Tokens(text)
	if errno != api.OK {
		t.Fatalf("%q: error %d", text, errno)
	}
	if got, want := stopOf(t, text, tokens), wantStop(r, tokens); got != want {
		t.Errorf("%q: stops at token %d, not %d", text, got, want)
	}
}

// P6.1: behind many beginnings, what may come next, and then next, is what the grammar says, of all words and signs.
func TestWhatMayComeNext(t *testing.T) {
	r := readRules(grammar)
	for _, begin := range []string{
		"", "int", "int x", "int x [", "int x [ 1", "int x [ 1 ]", "int *", "int (", "int ( *", "int ( * x", "int ( * x [ 1 ]", "int ( * x )", "int ( * x ) (", "int ( * x ) ( void", "int ( * x ) ( int", "int ( * x ) ( int *", "int ( * x ) ( int (", "int ( * x ) ( int ( *", "int ( * x ) ( int ( * )", "int ( * x ) ( int ( * ) ( )", "int ( * x ) ( )",
		"unsigned", "unsigned long", "signed", "long", "void", "double", "struct", "struct x", "struct x *", "union x (", "struct x {", "struct x { int", "struct x { int x", "struct x { int x ;", "struct x { int x ; }", "struct x { int x [ 1 ]", "struct x { int ( * x )", "struct x { int ( * x ) ( )", "struct x { struct x",
		"extern", "extern int", "extern int *", "extern int x", "extern int x (", "extern int x ( )", "extern struct x", "extern int x ( ) ;",
		"int x (", "int x ( void", "int x ( int", "int x ( int *", "int x ( int x", "int x ( int x ,", "int x ( int (", "int x ( int ( *", "int x ( int ( * x", "int x ( int ( * x )", "int x ( int ( * x ) (", "int x ( int ( * x ) ( )", "int x ( )", "int x ( ) ;", "int x ( ) { }",
		"int x =", "int x = x", "int x = {", "int x = { x", "int x = { x ,", "int x = { { x }", "int x = { x }", "int x = x =",
		"int x ( ) {", "int x ( ) { x", "int x ( ) { x :", "int x ( ) { x ;", "int x ( ) { int", "int x ( ) { struct x", "int x ( ) { int x", "int x ( ) { int ( * x )", "int x ( ) { int ( * x ) ( )", "int x ( ) { int x =", "int x ( ) { int x = { x }", "int x ( ) { {", "int x ( ) { { }",
		"int x ( ) { if", "int x ( ) { if (", "int x ( ) { if ( x", "int x ( ) { if ( x )", "int x ( ) { if ( x ) x", "int x ( ) { if ( x ) ;", "int x ( ) { if ( x ) ; else", "int x ( ) { if ( x ) ; else ;", "int x ( ) { if ( x ) if ( x ) ; else ;", "int x ( ) { while", "int x ( ) { while ( x )", "int x ( ) { do", "int x ( ) { do ;", "int x ( ) { do ; while", "int x ( ) { do ; while ( x )", "int x ( ) { do while ( x ) ;",
		"int x ( ) { for", "int x ( ) { for (", "int x ( ) { for ( int", "int x ( ) { for ( int x", "int x ( ) { for ( int x = x", "int x ( ) { for ( int x ;", "int x ( ) { for ( x", "int x ( ) { for ( ;", "int x ( ) { for ( ; x", "int x ( ) { for ( ; ;", "int x ( ) { for ( ; ; x", "int x ( ) { for ( ; ; )", "int x ( ) { for ( ; ; ) x",
		"int x ( ) { switch", "int x ( ) { switch ( x )", "int x ( ) { switch ( x ) {", "int x ( ) { switch ( x ) { x", "int x ( ) { switch ( x ) { case", "int x ( ) { switch ( x ) { case x", "int x ( ) { switch ( x ) { case x ? x : x", "int x ( ) { switch ( x ) { case x :", "int x ( ) { switch ( x ) { default", "int x ( ) { switch ( x ) { default :", "int x ( ) { switch ( x ) { {", "int x ( ) { switch ( x ) { if ( x )", "int x ( ) { switch ( x ) { int x", "int x ( ) { switch ( x ) { }",
		"int x ( ) { break", "int x ( ) { continue", "int x ( ) { goto", "int x ( ) { goto x", "int x ( ) { return", "int x ( ) { return x",
		"int x = -", "int x = ++", "int x = sizeof", "int x = sizeof (", "int x = sizeof ( int", "int x = sizeof ( int )", "int x = sizeof ( x )", "int x = sizeof ( int (", "int x = sizeof ( int ( * )", "int x = (", "int x = ( x", "int x = ( x )", "int x = ( int", "int x = ( int )", "int x = ( int ) x", "int x = ( int *", "int x = ( int (", "int x = ( int ( *", "int x = ( int ( * )", "int x = ( int ( * ) (", "int x = ( int ( * ) ( int", "int x = ( int ( * ) ( )", "int x = ( struct", "int x = ( unsigned", "int x = sizeof ( struct x",
		"int x = 1", "int x = 1.5", "int x = 'a'", "int x = \"a\"", "int x = x [", "int x = x [ x", "int x = x (", "int x = x ( x", "int x = x ( x ,", "int x = x ( )", "int x = x .", "int x = x . x", "int x = x ->", "int x = x ++", "int x = x +", "int x = x + x", "int x = x ?", "int x = x ? x", "int x = x ? x , x", "int x = x ? x :", "int x = x ? x : x", "int x = x ? x ? x : x", "int x = x ? x : x ? x", "int x = ( x ,", "int x = ( x = x",
	} {
		c := newChart(r)
		for _, s := range strings.Fields(begin) {
			k, _, _ := lex.Tokens(s)
			if !c.push(wordOf(k[0])) {
				t.Fatalf("%q begins no unit", begin)
			}
		}
		steps := 2
		checkNext(t, c, strings.Fields(begin), steps)
	}
}

// checkNext asks what may come behind some words, that a unit may begin with, up to so many steps further.
func checkNext(t *testing.T, c *chart, words []string, steps int) {
	t.Helper()
	text := strings.Join(words, " ")
	checkStep(t, text, utf8.RuneCountInString(text)+1, c.ends())
	for _, w := range c.words {
		next := append(words[:len(words):len(words)], spell(w))
		if !c.push(w) {
			at := utf8.RuneCountInString(text) + 2
			if len(words) == 0 {
				at = 1
			}
			checkStep(t, strings.Join(next, " "), at, false)
			continue
		}
		if steps > 1 {
			checkNext(t, c, next, steps-1)
		} else {
			text := strings.Join(next, " ")
			checkStep(t, text, utf8.RuneCountInString(text)+1, c.ends())
		}
		c.pop()
	}
}

// checkStep asks whether a text of one line is taken, or else where it stops.
func checkStep(t *testing.T, text string, col int, taken bool) {
	t.Helper()
	_, place, errno := parse.Parse(text)
	if taken != (errno == api.OK) || !taken && (errno != api.ErrSyntax || place != at(1, col)) {
		t.Fatalf("%q: error %d at %v, not at column %d (taken: %v)", text, errno, place, col, taken)
	}
}
