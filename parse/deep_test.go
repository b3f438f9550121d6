package parse_test

import (
	"strings"
	"testing"

	"alembic/api"
	"alembic/parse"
)

// deepForm is a text with something that can stand in itself, or behind itself, as often as one likes.
type deepForm struct {
	ahead, open, inner, end, behind string
	errno                           api.Errno // when it does so often
}

func (f deepForm) text(n int) string {
	return f.ahead + nested(n, f.open, f.inner, f.end) + f.behind
}

func deepForms() []deepForm {
	return []deepForm{
		{"int x = ", "(", "1", ")", ";", api.OK}, {"int x = ", "!", "1", "", ";", api.ErrLimit}, {"int x = ", "a?", "1", ":1", ";", api.ErrLimit}, {"int x = ", "a?1:", "1", "", ";", api.ErrLimit}, {"int x = ", "a=", "1", "", ";", api.ErrLimit}, {"int x = ", "a+", "1", "", ";", api.ErrLimit}, {"int x = ", "a[", "1", "]", ";", api.ErrLimit}, {"int x = ", "f(", "1", ")", ";", api.ErrLimit}, {"int x = ", "f(1,", "1", ")", ";", api.ErrLimit}, {"int x = ", "sizeof ", "1", "", ";", api.ErrLimit}, {"int x = ", "(int)", "1", "", ";", api.ErrLimit},
		{"int x = a", "[1]", "", "", ";", api.ErrLimit}, {"int x = a", "++", "", "", ";", api.ErrLimit}, {"int x = a", ".b", "", "", ";", api.ErrLimit}, {"int x = a", "()", "", "", ";", api.ErrLimit}, {"int x = ", "{", "1", "}", ";", api.ErrLimit}, {"int x = {1", ",1", "", "", "};", api.OK}, {"int x = f(1", ",1", "", "", ");", api.OK},
		{"int ", "*", "x", "", ";", api.ErrLimit}, {"int x", "[1]", "", "", ";", api.ErrLimit}, {"int x = sizeof(int", "(*)(int", "", ")", ");", api.ErrLimit}, {"int (*x)(int", "(*)(int", "", ")", ");", api.ErrLimit}, {"int f(int a", ",int a", "", "", ");", api.ErrLimit}, {"struct s{", "int a;", "", "", "int b;};", api.OK},
		{"int f()", "{", "", "}", "", api.ErrLimit}, {"int f(){", "if(a)", ";", "", "}", api.ErrLimit}, {"int f(){", "if(a);else ", ";", "", "}", api.ErrLimit}, {"int f(){", "for(;;)", ";", "", "}", api.ErrLimit}, {"int f(){", "while(a)", ";", "", "}", api.ErrLimit}, {"int f(){", "do ", ";", "while(1);", "}", api.ErrLimit}, {"int f(){", "switch(a){", ";", "}", "}", api.ErrLimit},
		{"int f(){", ";", "", "", "}", api.OK}, {"int f(){", "a;", "", "", "}", api.OK}, {"int f(){", "a:", "", "", "}", api.OK}, {"int f(){", "int a;", "", "", "}", api.OK}, {"int f(){switch(a){", "case 1:", "", "", "}}", api.OK}, {"", "int a;", "", "", "", api.OK}, {"", "int f();", "", "", "", api.OK}, {"", "int f(){}", "", "", "", api.OK},
	}
}

// P6.1: parts nested in one another nearly as deep as the document promises anything of.
func TestDeepTexts(t *testing.T) {
	for _, f := range deepForms() {
		n := min(1<<16-100, (api.MaxText-50)/len(f.open+f.end))
		if _, place, errno := parse.Parse(f.text(n)); errno != f.errno || errno == api.ErrLimit && place != at(1, 1) {
			t.Errorf("%q %d times: error %d at %v", f.open, n, errno, place)
		}
		text := f.text(4000)
		checkError(t, text+"@", api.ErrToken, at(1, len(text)+1))
		checkError(t, text+" }", api.ErrSyntax, at(1, len(text)+2))
		open := f.ahead + nested(4000, f.open, "", "")
		checkError(t, open+" ]", api.ErrSyntax, at(1, len(open)+2))
	}
}

// Texts as long as may be end, too, whatever they nest.
func TestLongTexts(t *testing.T) {
	for _, f := range deepForms() {
		if !strings.Contains("(!{*;", f.open) {
			continue // as the others, but longer
		}
		n := (api.MaxText - len(f.text(0))) / len(f.open+f.end)
		trees, _, errno := parse.Parse(f.text(n))
		if errno != api.OK && errno != api.ErrLimit || (errno == api.OK) != (len(trees) > 0) {
			t.Errorf("%q %d times: %d trees, error %d", f.open, n, len(trees), errno)
		}
	}
}
