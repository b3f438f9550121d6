package parse_test

import (
	"math"
	"strconv"
	"strings"
	"testing"

	"alembic/api"
	"alembic/parse"
)

// nested is a text that stands so many times within the beginning and the end of another one.
func nested(n int, open, inner, end string) string {
	return strings.Repeat(open, n) + inner + strings.Repeat(end, n)
}

// checkMost asks that of a form with a number the one up to most is taken, and greater ones are above a limit.
func checkMost(t *testing.T, most int, form func(n int) string) {
	t.Helper()
	for _, n := range []int{1, 2, most - 1, most} {
		mustParse(t, form(n))
		mustParse(t, "int x; "+form(n)+form(n))
	}
	for _, n := range []int{most + 1, most + 2, 2*most + 7, most + 3000} {
		checkError(t, form(n), api.ErrLimit, at(1, 1))
		checkError(t, "int x;\n "+form(n)+" int y[0];", api.ErrLimit, at(2, 2))
		checkError(t, form(n)+" ;", api.ErrSyntax, at(1, len(form(n))+2))
	}
}

// P6.1: trees of each form nest MaxDepth deep, and no deeper.
func TestTreeDepthLimit(t *testing.T) {
	for _, x := range []struct {
		others                           int // how deep the trees around and within nest
		ahead, open, inner, end, closing string
	}{
		{2, "int x = ", "!", "a", "", ";"}, {2, "int x = ", "*", "a", "", ";"}, {2, "int x = ", "sizeof ", "a", "", ";"}, {2, "int x = ", "(int)", "a", "", ";"}, {2, "int x = ", "(int)", "sizeof (int*)", "", ";"},
		{2, "int x = a", "++", "", "", ";"}, {2, "int x = a", "[b]", "", "", ";"}, {2, "int x = a", "()", "", "", ";"}, {2, "int x = a", "(b, c)", "", "", ";"}, {2, "int x = a", ".b", "", "", ";"}, {2, "int x = a", "->b", "", "", ";"},
		{2, "int x = ", "a[", "b", "]", ";"}, {2, "int x = ", "f(", "c", ")", ";"}, {2, "int x = ", "f(a, ", "c", ", b)", ";"},
		{2, "int x = a", " + b", "", "", ";"}, {2, "int x = a", " && b", "", "", ";"}, {2, "int x = ", "a = ", "b", "", ";"}, {2, "int x = ", "a + (", "b", ")", ";"}, {2, "int x = ", "a ? b : ", "c", "", ";"}, {2, "int x = ", "a ? ", "b", " : c", ";"}, {2, "int x = ", "(", "a", " ? b : c)", ";"},
		{2, "int x = ", "{", "1", "}", ";"}, {2, "int x = ", "{1, ", "a", "}", ";"},
		{1, "int f()", "{", "", "}", ""}, {2, "int f()", "{", ";", "}", ""}, {3, "int f()", "{", "a;", "}", ""}, {2, "int f()", "{", "a:", "}", ""}, {2, "int f()", "{", "break;", "}", ""}, {2, "int f()", "{", "return;", "}", ""}, {3, "int f()", "{", "return a;", "}", ""}, {2, "int f()", "{", "int x;", "}", ""}, {4, "int f()", "{", "int x = -a;", "}", ""},
		{3, "int f() {", "if (a) ", ";", "", "}"}, {3, "int f() {", "if (a) ; else ", ";", "", "}"}, {3, "int f() {", "while (a) ", ";", "", "}"}, {3, "int f() {", "do ", ";", " while (a);", "}"}, {3, "int f() {", "for (;;) ", ";", "", "}"}, {2, "int f() {", "switch (a) {", "", "}", "}"}, {3, "int f() {", "switch (a) { default: ", "break;", "}", "}"},
		{4, "int f() { if (", "!", "a", "", ") ; }"}, {4, "int f() { while (", "!", "a", "", ") ; }"}, {4, "int f() { do ; while (", "!", "a", "", "); }"}, {4, "int f() { switch (", "!", "a", "", ") { } }"}, {5, "int f() { switch (a) { case ", "!", "1", "", ": } }"}, {4, "int f() { return ", "!", "1", "", "; }"}, {5, "int f() { a, ", "!", "1", "", "; }"},
		{5, "int f() { for (", "!", "a", "", ";;) ; }"}, {4, "int f() { for (; ", "!", "a", "", ";) ; }"}, {4, "int f() { for (;; ", "!", "a", "", ") ; }"}, {5, "int f() { for (int x = ", "!", "a", "", ";;) ; }"},
	} {
		form := func(n int) string { return x.ahead + nested(n, x.open, x.inner, x.end) + x.closing }
		most := api.MaxDepth - x.others
		if x.inner == "" && x.open == "switch (a) {" {
			most-- // X of the innermost
		}
		checkMost(t, most, form)
		if trees := mustParse(t, form(most)); parse.Depth(trees[0]) != api.MaxDepth {
			t.Errorf("%q nests %d deep", form(most), parse.Depth(trees[0]))
		}
	}
}

// P6.1: parentheses make no tree.
func TestParenthesesAreNoTrees(t *testing.T) {
	for _, n := range []int{1, 199, 200, 201, 5000} {
		checkUnit(t, "int x = "+nested(n, "(", "a", ")")+";", "[var <int> x a]")
		checkUnit(t, "int x = -"+nested(n, "(", "a + b", ")")+"[1];", "[var <int> x [- [index [+ a b] 1]]]")
	}
}

// P6.1: types nest MaxDepth deep, and no deeper, wherever they stand.
func TestTypeDepthLimit(t *testing.T) {
	stars := func(ahead, behind string) func(n int) string {
		return func(n int) string { return ahead + strings.Repeat("*", n) + behind }
	}
	for _, x := range []struct {
		others        int
		ahead, behind string
	}{
		{1, "int ", "x;"}, {1, "int ", "x = 1;"}, {1, "struct s ", "x;"}, {1, "void ", "x;"}, {2, "int ", "x[2];"}, {3, "int ", "x[2][3];"}, {3, "int ", "(*x)();"}, {4, "int ", "(*x[2])();"}, {3, "int (*x)(int", ");"}, {3, "int (*x)(char, int", ", char);"}, {5, "int (*x)(int", "(*)());"},
		{2, "int ", "f();"}, {2, "int ", "f() {}"}, {2, "extern int ", "f();"}, {2, "int f(int ", "a);"}, {2, "int f(int a, int ", "b) {}"}, {4, "int f(int ", "(*a)());"}, {4, "int f(int (*a)(int", "));"},
		{1, "struct s { int ", "a; };"}, {1, "struct s { int a; char ", "b; int c; };"}, {2, "union s { int ", "a[2]; };"},
		{1, "int f() { int ", "x; }"}, {1, "int f() { { { int ", "x = 1; } } }"}, {1, "int f() { for (int ", "x;;) ; }"}, {1, "int f() { switch (a) { int ", "x; } }"},
		{1, "int x = (int", ") 1;"}, {1, "int x = sizeof (int", ");"}, {3, "int x = (int", "(*)()) 1;"}, {3, "int x = sizeof (int (*)(int", "));"}, {1, "int x = {1, {f(a, (int", ") 1)}};"}, {1, "int f() { if (a) ; else return b ? c : sizeof (int", "); }"}, {1, "int f() { do ; while ((int", ") a); }"}, {1, "int f() { switch (a) { case (int", ") 1: } }"},
	} {
		checkMost(t, api.MaxDepth-x.others, stars(x.ahead, x.behind))
	}
	checkMost(t, api.MaxDepth-1, func(n int) string { return "int x" + strings.Repeat("[1]", n) + ";" })
	checkMost(t, (api.MaxDepth-1)/2, func(n int) string { return "int (*x)(" + nested(n-1, "int (*)(", "int", ")") + ");" })
	checkMost(t, (api.MaxDepth-1)/2, func(n int) string { return "int x = sizeof (" + nested(n, "int (*)(", "int", ")") + ");" })
}

// P6.1: functions have at most MaxArgs parameters, whether they are declared or pointed to.
func TestParameterLimit(t *testing.T) {
	list := func(ahead, part, behind string) func(n int) string {
		return func(n int) string {
			return ahead + strings.Repeat(part+", ", n-1) + part + behind
		}
	}
	for _, x := range [][3]string{
		{"int f(", "int a", ");"}, {"int f(", "int (*a)()", ") { return 1; }"}, {"extern int f(", "void a", ");"}, {"int (*f)(", "int", ");"}, {"int (*f[2])(", "void", ");"}, {"int (*f)(int (*)(", "int", "));"}, {"int f(int (*f)(", "int", "));"}, {"struct s { int (*f)(", "int", "); };"}, {"int f() { int (*f)(", "int", "); }"}, {"int x = (int (*)(", "int*", ")) 1;"}, {"int f() { for (;;) return sizeof (int (*)(", "int (*)()", ")); }"},
	} {
		if x[1] == "void" {
			x[1], x[2] = "int", ", void"+x[2] // a single void is none
			form := list(x[0], x[1], x[2])
			checkMost(t, api.MaxArgs-1, form)
			continue
		}
		checkMost(t, api.MaxArgs, list(x[0], x[1], x[2]))
	}
	// arguments are no parameters
	mustParse(t, list("int x = f(", "1", ");")(1000))
}

// P6.1: arrays have from 1 to MaxSize parts, wherever they stand.
func TestArrayLimit(t *testing.T) {
	for _, x := range [][2]string{
		{"int x[", "];"}, {"int x[2][", "] = 1;"}, {"int x[", "][2];"}, {"int *x[", "];"}, {"struct s x[", "];"}, {"int (*x[", "])();"}, {"int (*x[2][", "])();"}, {"struct s { int x[", "]; };"}, {"union s { int a; int (*x[", "])(); int b; };"}, {"int f() { int x[", "]; }"}, {"int f() { for (;;) { switch (a) { case 1: { int x[", "] = 1; } } } }"}, {"int f() { for (int (*x[", "])();;) ; }"},
	} {
		for _, n := range []string{"1", "2", "1u", "0x1L", "01", strconv.Itoa(api.MaxSize), "1048575", "0x100000", "04000000ul"} {
			mustParse(t, x[0]+n+x[1])
		}
		for _, n := range []string{"0", "0u", "00", "0x0", "0ul", strconv.Itoa(api.MaxSize + 1), "0x100001", "2147483647", "4294967295", "4294967296", "4294967297", "9223372036854775807", "9223372036854775808", "18446744073709551615", "0xffffffffffffffffUL"} {
			checkError(t, x[0]+n+x[1], api.ErrLimit, at(1, 1))
			checkError(t, "int x[1];\n\n  "+x[0]+n+x[1], api.ErrLimit, at(3, 3))
			checkError(t, x[0]+n+x[1]+" }", api.ErrSyntax, at(1, len(x[0]+n+x[1])+2))
		}
	}
	trees := mustParse(t, "int x[1048576];")
	if n := trees[0].Type.Array().Len; n != api.MaxSize || n > math.MaxInt32 {
		t.Error(n)
	}
}

// P6.1: the place of ErrLimit is that of the first tree above a limit; all tokens are looked at ahead of it.
func TestLimitPlaces(t *testing.T) {
	for _, x := range []struct {
		text  string
		place api.Place
	}{
		{"int a; int b[0];", at(1, 8)}, {"int a[0]; int b[0];", at(1, 1)}, {"int a;\n extern int *f(int (*a)(" + strings.Repeat("int, ", 32) + "int));", at(2, 2)},
		{"int a;\n\tstruct s { int a[0]; };", at(2, 2)}, {"int a; unsigned int f() { int a[0]; }", at(1, 8)}, {"int f() { }\n\nint g() {\n int a[0];\n}\nint b[0];", at(3, 1)}, {"  int a = " + nested(200, "!", "1", "") + "; int b[0];", at(1, 3)},
	} {
		checkError(t, x.text, api.ErrLimit, x.place)
	}
	checkError(t, "int a[0]; int b = ;", api.ErrSyntax, at(1, 19))
	checkError(t, "int a[0]; int b[0]; x", api.ErrSyntax, at(1, 21))
	checkError(t, "int a[0]", api.ErrSyntax, at(1, 9))
	checkError(t, "int a[0] b;", api.ErrSyntax, at(1, 10))
	checkError(t, "int a[0]; 09", api.ErrToken, at(1, 11))
}
