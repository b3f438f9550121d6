package parse_test

import (
	"testing"
)

// P6.1: the words that a type begins with.
func TestSpecs(t *testing.T) {
	for _, x := range []struct{ spec, want string }{
		{"void", "void"}, {"double", "double"}, {"char", "char"}, {"short", "short"}, {"int", "int"}, {"long", "long"},
		{"signed", "int"}, {"signed char", "char"}, {"signed short", "short"}, {"signed int", "int"}, {"signed long", "long"},
		{"unsigned", "unsigned int"}, {"unsigned char", "unsigned char"}, {"unsigned short", "unsigned short"}, {"unsigned int", "unsigned int"}, {"unsigned long", "unsigned long"},
		{"struct s", "struct s"}, {"union s", "union s"}, {"struct\n_9", "struct _9"},
	} {
		checkUnit(t, x.spec+" x;", "[var <"+x.want+"> x _]")
		checkUnit(t, x.spec+" *x;", "[var <"+x.want+"*> x _]")
		checkUnit(t, x.spec+" x();", "[func <"+x.want+"()> x [] _]")
		checkUnit(t, "extern "+x.spec+" x();", "[extern <"+x.want+"()> x [] _]")
		checkUnit(t, "int f("+x.spec+" x, "+x.spec+" y);", "[func <int("+x.want+", "+x.want+")> f [x y] _]")
		checkUnit(t, "struct r { "+x.spec+" x; "+x.spec+" y; };", "[struct r <"+x.want+"> x 0, <"+x.want+"> y 0]")
		checkItem(t, x.spec+" x;", "[var <"+x.want+"> x _]")
		checkItem(t, "for ("+x.spec+" x;;) ;", "[for [var <"+x.want+"> x _] _ _ [do _]]")
		checkExpr(t, "("+x.spec+") a", "[cast <"+x.want+"> a]")
		checkExpr(t, "sizeof ("+x.spec+"*)", "[sizetype <"+x.want+"*>]")
		checkUnit(t, "int (*f)("+x.spec+"*, "+x.spec+");", "[var <int("+x.want+"*, "+x.want+")*> f _]")
	}
}

// P6.1: what is declared by stars, brackets and parentheses.
func TestDeclarations(t *testing.T) {
	for _, x := range []struct{ text, want string }{
		{"int x", "<int> x"}, {"int *x", "<int*> x"}, {"int ***x", "<int***> x"}, {"int x[2]", "<int[2]> x"}, {"int x[2][3][4]", "<int[4][3][2]> x"}, {"int *a[2][3]", "<int*[3][2]> a"}, {"int x[0x10]", "<int[16]> x"}, {"int x[010]", "<int[8]> x"}, {"int x[3ul]", "<int[3]> x"}, {"int x[1048576]", "<int[1048576]> x"},
		{"int (*f)()", "<int()*> f"}, {"int (*f)(void)", "<int()*> f"}, {"int *(*f)(int)", "<int*(int)*> f"}, {"int (*f[2])(int, char*)", "<int(int, char*)*[2]> f"}, {"void (*f[2][3])(int (*)(void), void*)", "<void(int()*, void*)*[3][2]> f"}, {"int (*f)(int (*)(int (*)()))", "<int(int(int()*)*)*> f"}, {"int (*f)(void, void)", "<int(void, void)*> f"}, {"int (*f)(struct s, union u*)", "<int(struct s, union u*)*> f"},
		{"struct s x", "<struct s> x"}, {"union u *x[2]", "<union u*[2]> x"}, {"struct s (*f)()", "<struct s()*> f"},
	} {
		checkUnit(t, x.text+";", "[var "+x.want+" _]")
		checkUnit(t, x.text+" = 1;", "[var "+x.want+" 1]")
		checkItem(t, x.text+";", "[var "+x.want+" _]")
		checkItem(t, x.text+" = 1;", "[var "+x.want+" 1]")
		checkItem(t, "for ("+x.text+"; a; b) ;", "[for [var "+x.want+" _] a b [do _]]")
		checkItem(t, "for ("+x.text+" = 1; ; ) ;", "[for [var "+x.want+" 1] _ _ [do _]]")
		checkUnit(t, "union r { "+x.text+"; };", "[union r "+x.want+" 0]")
		checkUnit(t, "struct r { char c; "+x.text+"; };", "[struct r <char> c 0, "+x.want+" 0]")
	}
}

// P6.1: what variables begin with.
func TestBeginnings(t *testing.T) {
	for _, x := range []struct{ text, want string }{
		{"1", "1"}, {"a = b", "[= a b]"}, {"(a, b)", "[, a b]"}, {"a ? b : c", "[? a b c]"}, {"&a", "[& a]"}, {`"a"`, `"a"`},
		{"{1}", "[list 1]"}, {"{1, 2}", "[list 1 2]"}, {"{1, {2}}", "[list 1 [list 2]]"}, {"{{1, 2}, {3}, a = b}", "[list [list 1 2] [list 3] [= a b]]"}, {"{{{{a}}}}", "[list [list [list [list a]]]]"}, {`{"a", -1, &b}`, `[list "a" [- 1] [& b]]`}, {"{(a, b), c}", "[list [, a b] c]"},
	} {
		checkUnit(t, "int x = "+x.text+";", "[var <int> x "+x.want+"]")
		checkUnit(t, "int x[2] = "+x.text+";", "[var <int[2]> x "+x.want+"]")
		checkItem(t, "int x = "+x.text+";", "[var <int> x "+x.want+"]")
		checkItem(t, "for (int x = "+x.text+";;) ;", "[for [var <int> x "+x.want+"] _ _ [do _]]")
	}
}

// P6.1: functions, with a body and without, from outside and not.
func TestFunctions(t *testing.T) {
	for _, x := range []struct{ params, want, names string }{
		{"", "", ""}, {"void", "", ""}, {"int a", "int", "a"}, {"int a, char *b", "int, char*", "a b"}, {"void a", "void", "a"}, {"void *a, void b", "void*, void", "a b"}, {"struct s a, union u *b", "struct s, union u*", "a b"},
		{"int (*f)()", "int()*", "f"}, {"int *(*f)(void), int g", "int*()*, int", "f g"}, {"void (*f)(int, void (*)(void*))", "void(int, void(void*)*)*", "f"}, {"int a, int a", "int, int", "a a"}, {"unsigned a, signed b, unsigned char c", "unsigned int, int, unsigned char", "a b c"},
	} {
		for _, r := range []struct{ spec, want string }{{"int ", "int"}, {"void ", "void"}, {"char **", "char**"}, {"struct s", "struct s"}, {"unsigned", "unsigned int"}} {
			rest := " <" + r.want + "(" + x.want + ")> f [" + x.names + "] "
			checkUnit(t, r.spec+" f("+x.params+");", "[func"+rest+"_]")
			checkUnit(t, "extern "+r.spec+" f("+x.params+");", "[extern"+rest+"_]")
			checkUnit(t, r.spec+" f("+x.params+") { }", "[func"+rest+"[block]]")
			checkUnit(t, r.spec+" f("+x.params+") { return; a; }", "[func"+rest+"[block [return _] [do a]]]")
		}
	}
}

// P6.1: records, and units of several things.
func TestUnits(t *testing.T) {
	for _, x := range []struct{ text, want string }{
		{"", ""}, {" \n\t\r ", ""},
		{"struct s { int a; };", "[struct s <int> a 0]"}, {"union s { int a; char a; };", "[union s <int> a 0, <char> a 0]"}, {"struct s { struct s *next; union u u[2]; int (*f[3])(struct s*); };", "[struct s <struct s*> next 0, <union u[2]> u 0, <int(struct s*)*[3]> f 0]"},
		{"struct s { int a; }; struct s x; struct s *f(); struct s (*g)();", "[struct s <int> a 0]\n[var <struct s> x _]\n[func <struct s*()> f [] _]\n[var <struct s()*> g _]"},
		{"int x; int x; int f() {} extern int f(); int f(int a);", "[var <int> x _]\n[var <int> x _]\n[func <int()> f [] [block]]\n[extern <int()> f [] _]\n[func <int(int)> f [a] _]"},
		{"int a = 1;\nint b() { return a; }\nint main() { return b(); }", "[var <int> a 1]\n[func <int()> b [] [block [return a]]]\n[func <int()> main [] [block [return [call b]]]]"},
	} {
		checkUnit(t, x.text, x.want)
	}
}

// P6.1: statements of each form.
func TestStatements(t *testing.T) {
	for _, x := range []struct{ text, want string }{
		{";", "[do _]"}, {"a;", "[do a]"}, {"(a);", "[do a]"}, {"*a = b;", "[do [= [* a] b]]"}, {"a, b;", "[do [, a b]]"}, {"\"a\";", "[do \"a\"]"}, {"sizeof a;", "[do [sizeof a]]"}, {"(int) a;", "[do [cast <int> a]]"},
		{"{}", "[block]"}, {"{;}", "[block [do _]]"}, {"{ a; { b; } int c; d: }", "[block [do a] [block [do b]] [var <int> c _] [label d]]"},
		{"if (a) b;", "[if a [do b] _]"}, {"if (a) b; else c;", "[if a [do b] [do c]]"}, {"if (a, b) ; else ;", "[if [, a b] [do _] [do _]]"}, {"if (a) {} else {}", "[if a [block] [block]]"},
		{"if (a) if (b) c; else d;", "[if a [if b [do c] [do d]] _]"}, {"if (a) if (b) c; else d; else e;", "[if a [if b [do c] [do d]] [do e]]"}, {"if (a) { if (b) c; } else d;", "[if a [block [if b [do c] _]] [do d]]"}, {"if (a) b; else if (c) d; else e;", "[if a [do b] [if c [do d] [do e]]]"},
		{"if (a) while (b) if (c) d; else e;", "[if a [while b [if c [do d] [do e]]] _]"}, {"if (a) for (;;) if (c) d; else e; else g;", "[if a [for [do _] _ _ [if c [do d] [do e]]] [do g]]"}, {"if (a) do if (c) d; else e; while (b); else g;", "[if a [dowhile [if c [do d] [do e]] b] [do g]]"},
		{"while (a) b;", "[while a [do b]]"}, {"while (a = b) ;", "[while [= a b] [do _]]"}, {"while (1) { break; continue; }", "[while 1 [block [break] [continue]]]"},
		{"do a; while (b);", "[dowhile [do a] b]"}, {"do { } while (a, b);", "[dowhile [block] [, a b]]"}, {"do do a; while (b); while (c);", "[dowhile [dowhile [do a] b] c]"}, {"do while (a) b; while (c);", "[dowhile [while a [do b]] c]"},
		{"for (;;) ;", "[for [do _] _ _ [do _]]"}, {"for (a; b; c) d;", "[for [do a] b c [do d]]"}, {"for (a, b; c, d; e, f) g;", "[for [do [, a b]] [, c d] [, e f] [do g]]"}, {"for (; a;) b;", "[for [do _] a _ [do b]]"}, {"for (;; a) b;", "[for [do _] _ a [do b]]"}, {"for (a;;) b;", "[for [do a] _ _ [do b]]"}, {"for ((a);;) {}", "[for [do a] _ _ [block]]"},
		{"for (int i = 0; i < 2; i++) s += get(i);", "[for [var <int> i 0] [< i 2] [post++ i] [do [+= s [call get i]]]]"}, {"for (struct s *p = a; p; p = p->next) ;", "[for [var <struct s*> p a] p [= p [-> p next]] [do _]]"}, {"for (int a[2] = {1, 2};;) ;", "[for [var <int[2]> a [list 1 2]] _ _ [do _]]"},
		{"switch (a) { }", "[switch a]"}, {"switch (a, b) { case 1: case 2: c; break; default: }", "[switch [, a b] [case 1] [case 2] [do c] [break] [case _]]"}, {"switch (a) { case -1: case 'a': case b ? c : d: case (e, f): case (g = h): }", "[switch a [case [- 1]] [case 97] [case [? b c d]] [case [, e f]] [case [= g h]]]"}, {"switch (a) { b; int c = 1; d: default: default: { } }", "[switch a [do b] [var <int> c 1] [label d] [case _] [case _] [block]]"}, {"switch (a) { case 1: switch (b) { case 2: } case 3: }", "[switch a [case 1] [switch b [case 2]] [case 3]]"}, {"switch (a) { case b: c: d; }", "[switch a [case b] [label c] [do d]]"},
		{"break;", "[break]"}, {"continue;", "[continue]"}, {"goto a;", "[goto a]"}, {"a: ;", "[label a] [do _]"}, {"a: b: c: goto b;", "[label a] [label b] [label c] [goto b]"}, {"a:", "[label a]"}, {"a: int b;", "[label a] [var <int> b _]"}, {"a ? b : c;", "[do [? a b c]]"},
		{"return;", "[return _]"}, {"return a;", "[return a]"}, {"return a, b;", "[return [, a b]]"}, {"return (a);", "[return a]"},
		{"int a; int b = 1; a = b;", "[var <int> a _] [var <int> b 1] [do [= a b]]"}, {"struct s x; union u *y = &x;", "[var <struct s> x _] [var <union u*> y [& x]]"},
	} {
		checkItem(t, x.text, x.want)
	}
}

// P6.1: the document's examples.
func TestExamples(t *testing.T) {
	checkStop(t, "int f(int a, char *b¦[2]);")
	checkError(t, "int f(int a, char *b[2]);", 3, at(1, 21))
	checkUnit(t, "int *a[2][3];", "[var <int*[3][2]> a _]")
	checkUnit(t, "int (*f[2])(int, char*);", "[var <int(int, char*)*[2]> f _]")
	checkExpr(t, "a = b = c ? d : e, f", "[, [= a [= b [? c d e]]] f]")
	checkStop(t, "extern int f¦;")
	checkStop(t, "extern int f¦[2];")
	checkUnit(t, "int x = {1, {2}};", "[var <int> x [list 1 [list 2]]]")
	checkExpr(t, "(int) -x * y", "[* [cast <int> [- x]] y]")
	checkUnit(t, "extern int get(int a); int main() { int s = 0; for (int i = 0; i < 2; i++) s += get(i); return s; }",
		"[extern <int(int)> get [a] _]\n[func <int()> main [] [block [var <int> s 0] [for [var <int> i 0] [< i 2] [post++ i] [do [+= s [call get i]]]] [return s]]]")
}
