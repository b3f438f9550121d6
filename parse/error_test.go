package parse_test

import (
	"testing"
)

// P6.1: the first token with which no unit can go on (behind the stroke): of units.
func TestUnitErrors(t *testing.T) {
	for _, s := range []string{
		// what begins none
		"¦;", "¦x;", "¦1", "¦}", "¦{", "¦(", "¦*x;", "¦if", "¦sizeof", "¦=", "¦\"a\"", "¦'a'", "¦1.5", "int x;¦;", "int f() {}¦;", "struct s { int a; };¦;", "int f();¦{}", "int x;\n\n ¦x;",
		// variables
		"int¦", "int¦;", "int ¦int x;", "int ¦1;", "int ¦[2] x;", "int ¦= 1;", "int ¦{", "int ¦, x;", "int ¦extern x;", "int x¦", "int x¦, y;", "int x ¦y;", "int x¦:", "int x ¦{", "int x¦)", "int x ¦*", "int x¦.a", "int x ¦extern", "int x ¦1;", "int x ¦+= 1;",
		"int *¦", "int *¦;", "int **¦int", "int *¦[2]", "int *¦&x;", "int * ¦= x;", "int ¦*= x;",
		// the words of types
		"long ¦long x;", "long ¦int x;", "short ¦int x;", "int ¦long x;", "int ¦unsigned x;", "unsigned ¦unsigned x;", "unsigned ¦signed x;", "unsigned long ¦int x;", "unsigned ¦double x;", "unsigned ¦void x;", "signed ¦struct s x;", "double ¦double x;", "void ¦int x;", "long ¦double x;",
		"struct¦", "struct ¦;", "struct ¦{ int a; };", "struct ¦int x;", "struct ¦struct s x;", "union ¦*x;", "union ¦1 {", "struct s¦", "struct s¦;", "struct s ¦struct s x;", "struct s ¦union", "struct s¦[2]", "struct s *¦{",
		// arrays
		"int x[¦", "int x[¦];", "int x[¦-1];", "int x[¦a];", "int x[¦'a'];", "int x[¦1.5];", "int x[¦\"a\"];", "int x[¦(2)];", "int x[¦sizeof x];", "int x[2¦", "int x[2 ¦+ 3];", "int x[2¦;", "int x[2¦, 3];", "int x[2][¦]", "int x[2]¦(", "int x[2]¦)", "int x[2] ¦{", "int x[2] ¦x",
		// pointers to functions
		"int (¦", "int (¦f)();", "int (¦)();", "int (¦(*f))();", "int (¦int *f)();", "int (*¦", "int (*¦)();", "int (*¦*f)();", "int (*¦(f))();", "int (*f¦", "int (*f¦();", "int (*f¦, g)", "int (*f[¦])();", "int (*f[2]¦;", "int (*f)¦;", "int (*f)¦[2];", "int (*f)¦= g;", "int (*f)(¦", "int (*f)(¦x", "int (*f)(int ¦x);", "int (*f)(int¦;", "int (*f)(int,¦)", "int (*f)(¦, int)", "int (*f)(int¦[2])", "int (*f)(int ¦= 1)", "int (*f)() ¦{", "int (*f)()¦()", "int (*f)()¦[2];", "int (*f)() ¦extern", "int (*f)()¦, g;", "int (*f)(¦extern int)",
		"int (*f)(int (¦f)())", "int (*f)(int (*¦f)())", "int (*f)(int (*)¦)", "int (*f)(int (*)¦, int)", "int (*f)(int (*)(¦x))", "int (*f)(int (*¦[2])())", "int (*f)(int (*)()¦())", "int (*f)(int (*)()¦;", "int (*f)(int (¦int))",
		// parameters
		"int f(¦", "int f(¦x", "int f(¦, int a)", "int f(¦1)", "int f(¦;", "int f(¦extern int a)", "int f(int¦", "int f(int¦);", "int f(int¦, int b);", "int f(int ¦int a)", "int f(int a¦", "int f(int a¦;", "int f(int a ¦b)", "int f(int a,¦", "int f(int a,¦)", "int f(int a,¦,", "int f(int a, void¦)", "int f(int a, ¦x)", "int f(void¦, int a)", "int f(void *¦)", "int f(void ¦int a)", "int f(int a¦[2])", "int f(int a¦(int))", "int f(int a ¦= 1)", "int f(int (¦a)())", "int f(int (*¦)(int))", "int f(int (*a¦[2])())", "int f(int (*a)¦)", "int f(int (*a)¦, int b)", "int f(int (*a)(int ¦b))", "int f(int (*a)()¦[2])", "int f(int *¦, int b)", "int f(¦...)",
		// functions
		"int f()¦", "int f()¦, g();", "int f() ¦= 1;", "int f()¦[2];", "int f()¦()", "int f() ¦int a;", "int f()¦)", "int f();¦)", "int f() {¦", "int f()¦:", "int f(void)¦}",
		"extern¦", "extern ¦x;", "extern ¦;", "extern ¦extern int f();", "extern ¦*f();", "extern int¦", "extern int¦;", "extern int ¦(*f)();", "extern int f¦", "extern int f ¦= 1;", "extern int f¦, g;", "extern int *f¦[2];", "extern int f() ¦{", "extern int f() ¦= 1;", "extern int f()¦, g();", "extern int f()¦", "extern int f()¦[2]", "extern struct s ¦{", "extern struct s¦;", "extern int f(¦2)", "extern int f(int¦)", "extern int *¦(*f)();", "extern int **¦;",
		// records
		"struct s {¦", "struct s {¦}", "struct s {¦};", "struct s {¦;", "struct s {¦x;", "struct s {¦extern int a;", "struct s { int¦;", "struct s { int¦}", "struct s { int a¦", "struct s { int a¦}", "struct s { int a¦, b;", "struct s { int a¦();", "struct s { int *a¦(int b);", "struct s { int a ¦= 1;", "struct s { int a¦: 1;", "struct s { int *¦}", "struct s { int a;¦", "struct s { int a;¦;", "struct s { int a; ¦a;", "struct s { int a; }¦", "struct s { int a; } ¦x;", "struct s { int a; } ¦*x;", "struct s { int a; } ¦int x;", "struct s { int a; }¦, t;", "union s { struct t ¦{", "struct s { int a[¦a];", "struct s { int (*f)()¦}", "struct s { int (*f)() ¦{", "struct s { int (¦f)();", "struct s {¦{",
	} {
		checkStop(t, s)
	}
}

// P6.1: the first token with which no unit can go on: of what variables begin with.
func TestBeginningErrors(t *testing.T) {
	for _, s := range []string{
		"¦", "¦;", "¦}", "¦, 1;", "¦int", "1¦", "1¦, y;", "1¦, 2;", "1¦}", "a = b¦, c;", "(1¦{",
		"{¦", "{¦}", "{¦, 1}", "{¦;", "{¦int", "{1¦", "{1¦;", "{1 ¦2}", "{1,¦}", "{1,¦, 2}", "{1}¦", "{1}¦, y;", "{1} ¦+ 1;", "{1}¦[0]", "{1}¦}", "{{1}¦;", "{{1},¦}", "{{1} ¦{2}}", "{{¦}}", "{1, {2¦;", "{a = b¦;", "{a = ¦{1}}", "{(¦{1})}", "1 + ¦{2};", "-¦{1}", "{¦.a = 1}", "{¦[0] = 1}",
	} {
		checkStop(t, "int x = "+s)
		checkStop(t, "int x[2][3] = "+s)
		checkStop(t, "int f() { struct s *x = "+s)
		checkStop(t, "int f() { for (int x = "+s)
	}
}

// P6.1: the first token with which no unit can go on: of items and statements.
func TestStatementErrors(t *testing.T) {
	for _, s := range []string{
		// what begins none
		"¦", "¦)", "¦]", "¦:", "¦, a;", "¦else ;", "¦case 1:", "¦default:", "¦extern int f();", "¦= a;", "¦/ a;", "¦? a : b;",
		// expressions
		"a¦", "a¦}", "a ¦b;", "(a)¦:", "a.b¦:", "1¦:", "a¦)", "a¦]", "a; ¦)", "a, b¦:", "a ¦int b;", "a ¦{",
		// blocks
		"{¦", "{ a¦}", "{ ¦case 1: }", "{ ¦default: }", "{} ¦else", "{ { ¦)",
		// if
		"if¦", "if ¦a", "if (¦)", "if (a¦", "if (a¦;", "if (¦int a)", "if (a)¦", "if (a) ¦}", "if (a) ¦int b;", "if (a) ¦struct s b;", "if (a) ¦else ;", "if (a) ¦case 1:", "if (a) ¦extern", "if (a) b¦: ;", "if (a) b ¦else", "if (a) {} ; ¦else", "if (a) b; else¦", "if (a) b; else ¦int c;", "if (a) b; else ¦else", "if (a) b; else c¦: ;", "if (a) b; else c; ¦else", "if (a) if (b) c; else d; else e; ¦else",
		// while, do
		"while¦", "while ¦a", "while (¦)", "while (a¦;", "while (¦;", "while (a)¦", "while (a) ¦}", "while (a) ¦int b;", "while (a) b¦: ;", "while (a) ; ¦else",
		"do¦", "do ¦}", "do a ¦while (b);", "do a; ¦;", "do a; ¦b; while (c);", "do ¦int a; while (b);", "do a¦: ; while (b);", "do a; while¦", "do a; while ¦b", "do a; while (¦)", "do a; while (b)¦", "do a; while (b) ¦c;", "do a; while (b) ¦}", "do {} ¦;", "do while (a) ; ¦;",
		// for
		"for¦", "for ¦a", "for (¦", "for (¦)", "for (¦{", "for (¦extern int a;;)", "for (¦return;;)", "for (a¦)", "for (a¦: ;;)", "for (;¦", "for (;¦)", "for (; a¦)", "for (; ¦int a;)", "for (;;¦", "for (;;¦;", "for (;; a¦;", "for (;; ¦int a)", "for (;;)¦", "for (;;) ¦}", "for (;;) ¦int a;", "for (;;) a¦: ;", "for (;;) ¦else", "for (int¦;", "for (int ¦)", "for (int a¦", "for (int a¦)", "for (int a¦();;)", "for (int a¦, b;;)", "for (int a = 1¦, b = 2;;)", "for (int a; ¦int b;)", "for (int a ¦b;;)", "for (struct s ¦{", "for (a; b; c) ; ¦)",
		// switch
		"switch¦", "switch ¦a", "switch (¦)", "switch (a¦{", "switch (a)¦", "switch (a) ¦;", "switch (a) ¦a;", "switch (a) ¦case 1:", "switch (a) ¦if (b) {}", "switch (a) {¦", "switch (a) { ¦)", "switch (a) { b¦}", "switch (a) { b: ¦else }", "switch (a) {} ¦else", "switch (a) { ¦extern",
		"switch (a) { case¦", "switch (a) { case ¦:", "switch (a) { case ¦int", "switch (a) { case b ¦= c: }", "switch (a) { case b¦, c: }", "switch (a) { case 1¦; }", "switch (a) { case 1¦}", "switch (a) { case b ? c : d¦; }", "switch (a) { case b ? c¦; }", "switch (a) { default¦", "switch (a) { default ¦1: }", "switch (a) { default¦; }", "switch (a) { case 1: ¦)", "switch (a) { case 1: ¦: }", "switch (a) { case 1 ¦case 2: }",
		"switch (a) { { ¦case 1: } }", "switch (a) { if (b) ¦case 1: ; }", "switch (a) { while (b) ¦default: ; }", "switch (a) { do ¦case 1: ; while (b); }", "switch (a) { case 1: switch (b) { } case 2¦; }", "switch (a) { {} ¦) }",
		// jumps, labels
		"break¦", "break ¦a;", "break¦}", "break ¦1;", "break¦:", "continue¦", "continue ¦(", "continue¦}", "goto¦", "goto ¦;", "goto ¦1;", "goto ¦int;", "goto ¦(a);", "goto ¦*a;", "goto a¦", "goto a¦:", "goto a¦, b;", "goto a ¦b;",
		"return¦", "return ¦}", "return ¦int a;", "return ¦{1};", "return ¦return;", "return ¦)", "return a¦", "return a¦}", "return a ¦b;", "return (a)¦:",
		"a:¦", "a: b:¦", "a: ¦)", "a: ¦:", "a: ¦else", "int¦: ;", "if¦: ;", "a: int¦;",
		// variables
		"int¦;", "int a¦", "int a¦}", "int a¦, b;", "int a¦();", "int a¦(int b) {}", "int a ¦{", "int *a¦();", "int a = ¦;", "int a = 1¦}", "int a = 1¦, b;", "int a[¦];", "int a[¦b];", "int (¦a);", "int a ¦:", "int a; ¦extern int b;", "struct s ¦{ int a; };", "struct s¦;", "struct s a = {¦}", "unsigned ¦;", "union ¦;", "int (*a)() ¦{", "int (*a)¦;",
	} {
		checkStop(t, "int f() { "+s)
		checkStop(t, "int x; struct s { int a; }; void f(int a, int b) {\n  ;\n c: "+s)
	}
}

// P6.1: the first token with which no unit can go on: of expressions.
func TestExpressionErrors(t *testing.T) {
	for _, s := range []string{
		// what begins none
		"¦", "¦;", "¦)", "¦]", "¦}", "¦= a", "¦? a", "¦: a", "¦.a", "¦->a", "¦[1]", "¦/ a", "¦+ a", "¦% a", "¦| a", "¦&& a", "¦^ a", "¦< a", "¦<< a", "¦== a", "¦, a", "¦int", "¦int a", "¦if", "¦{", "¦case",
		// first
		"a¦", "a ¦b", "a ¦1", "a ¦\"a\"", "a ¦!b", "a ¦~b", "a ¦sizeof b", "a ¦int", "a¦)", "a¦]", "a¦}", "a ¦{", "a¦:", "1 ¦a", "\"a\" ¦\"b\"", "'a' ¦'b'", "1.5 ¦1.5", "(¦)", "(¦;", "(a¦", "(a¦;", "(a¦]", "(a ¦b)", "(a,¦)", "(a¦:", "((a)¦;", "(a)¦)", "(a ¦int)", "(¦{1})", "(¦return)", "(a) ¦b", "(a) ¦!b", "(a) ¦1",
		// operations of two
		"a +¦", "a +¦;", "a +¦)", "a + ¦/ b", "a * ¦/ b", "a + ¦= b", "a + ¦? b : c", "a &&¦", "a || ¦|| b", "a < ¦< b", "a == ¦== b", "a - ¦)", "a + b +¦;", "a + ¦int", "a * b ¦c", "a << ¦>> b", "a + ¦{",
		// operations of one
		"-¦", "-¦;", "- ¦/ a", "!¦;", "*¦)", "&¦]", "++¦;", "--¦)", "- ¦+ a", "~ ¦% a", "! ¦int", "- ¦.a", "* ¦? a : b", "& ¦&& a", "++ ¦, a",
		// sizeof
		"sizeof¦", "sizeof¦;", "sizeof ¦int", "sizeof ¦)", "sizeof (¦)", "sizeof (¦;", "sizeof (a¦", "sizeof (a) ¦b", "sizeof ¦/ a", "sizeof (int¦", "sizeof (int¦;", "sizeof (int ¦a)", "sizeof (int¦[2])", "sizeof (int ¦int)", "sizeof (int*¦&a)", "sizeof (int (*)()¦;", "sizeof (int)¦[1]", "sizeof (int)¦(a)", "sizeof (int)¦.a", "sizeof (int)¦->a", "sizeof (int)¦++", "sizeof (int) ¦a", "sizeof (int) ¦1", "sizeof (int) ¦!a", "sizeof (int) ¦sizeof a", "sizeof (int) ¦(int) a", "sizeof (int) -¦;",
		// casts
		"(int)¦", "(int)¦;", "(int)¦)", "(int) ¦/ a", "(int) ¦+ a", "(int) ¦= a", "(int) ¦? a : b", "(int) a ¦b", "(int) ¦int", "(int) ¦{1}", "(int¦;", "(int ¦a) b", "(int¦[2]) a", "(int¦, int) a", "(unsigned ¦double) a", "(struct¦) a", "(struct s ¦{", "(¦extern int) a", "(void¦, int) a", "(long ¦long) a", "(int (¦)()) a", "(int (¦a)) b", "(int (*¦a)()) a", "(int (*)¦) a", "(int (*)(int ¦a)) a", "(int (*)()¦()) a", "(int (*)()¦[2]) a", "(int (*¦*)()) a", "(int (*¦[2])()) a", "(int (*)(¦a)) a", "(int (*)(int,¦)) a",
		// post
		"a[¦]", "a[¦;", "a[b¦", "a[b¦;", "a[b¦)", "a[b ¦c]", "a[¦int]", "a[b] ¦c", "a[1,¦]", "a[¦{", "a[b¦:", "f(¦", "f(¦;", "f(¦, a)", "f(a¦", "f(a¦;", "f(a,¦", "f(a,¦)", "f(a,¦, b)", "f(a ¦b)", "f(¦int)", "f(a¦]", "f() ¦a", "f(¦{1})", "f(a, ¦int b)", "f(a¦:", "f()¦)", "f(¦return)",
		"a.¦", "a.¦;", "a.¦1", "a.¦(b)", "a.¦int", "a.¦*b", "a->¦", "a->¦;", "a->¦\"b\"", "a->¦->b", "a.b ¦c", "a.¦.b", "a->¦sizeof", "a++ ¦b", "a-- ¦1", "a++ ¦!b", "a++ ¦~b", "a++ ¦sizeof b",
		// conditions
		"a ?¦", "a ?¦;", "a ? ¦: b", "a ? b¦", "a ? b¦;", "a ? b¦)", "a ? b :¦", "a ? b :¦;", "a ? b : ¦: c", "a ? b : c¦: d", "a ? b, c¦;", "a ? ¦int", "a ? b ? c : d¦;", "a ? b : c ? d¦;", "a ? b ¦c", "a ? b : ¦? c : d", "a ? b : c ¦d", "a ? b :¦)",
		// assignments, commas
		"a =¦", "a =¦;", "a = ¦= b", "a = ¦)", "a += ¦/ b", "a = b ¦c", "a = ¦{1}", "a <<=¦;", "a = b = ¦;", "a = ¦int", "a = ¦+= b", "a = b¦:", "a,¦", "a,¦;", "a,¦, b", "a, ¦)", "a, b ¦c", "a, ¦= b", "a, ¦int b",
	} {
		checkStop(t, "int f() { return a = "+s)
		checkStop(t, "int f() { { if (b) for (;;) c, "+s)
	}
}
