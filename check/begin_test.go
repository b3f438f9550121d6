package check_test

import (
	"fmt"
	"strings"
	"testing"

	"alembic/api"
)

// before declares what the beginnings of the tests are made of.
const before = `struct s { char c; int n; char t[4]; struct s *p; }; union u { short h; double d; char t[4]; }; struct w { union u u; struct s s[2]; };
int i; int a[5]; int m[2][3]; char ca[3]; struct s st; struct s sa[2]; int *p; void *v; double d; char c; unsigned char uc; int (*fp)(int);
int f(int a) { return a; } extern int e(int a); void g() { }
`

// begun asks for the data of the last variable that isn't a string of a text.
func begun(t *testing.T, text, want string) {
	t.Helper()
	var last api.Var
	for _, v := range checked(t, before+text).Vars {
		if !v.Fixed {
			last = v
		}
	}
	got := strings.Join(strings.Fields(varText(last))[1:], " ")
	if got != want {
		t.Errorf("%s\nis  %s\nnot %s", text, got, want)
	}
}

// P7.1: what globals begin with.
func TestBeginnings(t *testing.T) {
	for _, x := range []struct{ text, want string }{
		// numbers
		{"int x;", ""}, {"int x = 1;", "0:c32:1"}, {"int x = -1;", "0:c32:-1"}, {"int x = 'a';", "0:c32:97"}, {"int x = 4294967295;", "0:c32:-1"}, {"int x = 2147483648u;", "0:c32:-2147483648"}, {"int x = 9223372036854775808;", "0:c32:0"}, {"int x = 1.9;", "0:c32:1"}, {"int x = -1.9;", "0:c32:-1"}, {"int x = 2147483647.5;", "0:c32:2147483647"}, {"int x = -2147483648.5;", "0:c32:-2147483648"}, {"int x = 0;", "0:c32:0"},
		{"char x = 300;", "0:c8s:44"}, {"char x = 200;", "0:c8s:-56"}, {"unsigned char x = -1;", "0:c8u:255"}, {"unsigned char x = 256;", "0:c8u:0"}, {"short x = 40000;", "0:c16s:-25536"}, {"unsigned short x = -1;", "0:c16u:65535"}, {"char x = 300.7;", "0:c8s:44"}, {"unsigned char x = -1.0;", "0:c8u:255"}, {"char x = 4294967297;", "0:c8s:1"}, {"unsigned x = -1;", "0:c32:-1"}, {"unsigned x = 4294967295.5;", "0:c32:-1"}, {"unsigned x = -0.5;", "0:c32:0"}, {"unsigned x = 4294967295;", "0:c32:-1"},
		{"long x = -1;", "0:c64:-1L"}, {"long x = 1;", "0:c64:1L"}, {"long x = 4294967295u;", "0:c64:4294967295L"}, {"long x = -1u;", "0:c64:4294967295L"}, {"long x = 18446744073709551615;", "0:c64:-1L"}, {"long x = -1.5;", "0:c64:-1L"}, {"unsigned long x = -1;", "0:c64:-1L"}, {"unsigned long x = 1.5;", "0:c64:1L"}, {"unsigned long x = 18446744073709551615;", "0:c64:-1L"}, {"long x = -9223372036854775808;", "0:c64:-9223372036854775808L"},
		{"double x = 1;", "0:cf64:1D"}, {"double x = -1;", "0:cf64:-1D"}, {"double x = 0.5;", "0:cf64:0.5D"}, {"double x = -0.0;", "0:cf64:-0D"}, {"double x = 4294967295u;", "0:cf64:4.294967295e+09D"}, {"double x = 18446744073709551615;", "0:cf64:1.8446744073709552e+19D"}, {"double x = -0;", "0:cf64:0D"}, {"double x = -1u;", "0:cf64:4.294967295e+09D"}, {"double x = -9223372036854775808;", "0:cf64:9.223372036854776e+18D"},
		// pointers
		{"int *x = 0;", "0:c64:0L"}, {"int *x = 0ul;", "0:c64:0L"}, {"int *x = '\\0';", "0:c64:0L"}, {"void *x = 0;", "0:c64:0L"}, {"int (*x)(int) = 0;", "0:c64:0L"}, {"struct never *x = 0;", "0:c64:0L"}, {"int *x = &i;", "0:c64:@i"}, {"void *x = &i;", "0:c64:@i"}, {"int *x = a;", "0:c64:@a"}, {"void *x = &a;", "0:c64:@a"}, {"void *x = &ca;", "0:c64:@ca"}, {"struct s *x = &st;", "0:c64:@st"}, {"struct s *x = sa;", "0:c64:@sa"}, {"void *x = &sa;", "0:c64:@sa"}, {"int **x = &p;", "0:c64:@p"}, {"void *x = &v;", "0:c64:@v"}, {"void **x = &v;", "0:c64:@v"}, {"void *x = &x;", "0:c64:@x"}, {"void *x = &fp;", "0:c64:@fp"}, {"char *x = ca;", "0:c64:@ca"}, {"char *x = &c;", "0:c64:@c"}, {"unsigned char *x = &uc;", "0:c64:@uc"},
		{"int (*x)(int) = f;", "0:c64:@f"}, {"int (*x)(int) = &f;", "0:c64:@f"}, {"int (*x)(int) = e;", "0:c64:@e"}, {"int (*x)(int) = &e;", "0:c64:@e"}, {"void (*x)() = g;", "0:c64:@g"},
		{"char *x = \"ab\";", "0:c64:@.s0"}, {"char *x = \"\";", "0:c64:@.s0"}, {"char *x[2] = {\"a\", \"b\"};", "0:c64:@.s0 8:c64:@.s1"},
		// arrays
		{"int x[3] = {1};", "0:c32:1"}, {"int x[3] = {1, 2, 3};", "0:c32:1 4:c32:2 8:c32:3"}, {"int x[1] = {1};", "0:c32:1"}, {"int x[2][3] = {{1, 2}, {3}};", "0:c32:1 4:c32:2 12:c32:3"}, {"long x[2][2][2] = {{{1}}, {{2}, {3, 4}}};", "0:c64:1L 32:c64:2L 48:c64:3L 56:c64:4L"}, {"double x[2] = {1, -2};", "0:cf64:1D 8:cf64:-2D"}, {"short x[4] = {65536, -1};", "0:c16s:0 2:c16s:-1"}, {"int *x[3] = {a, 0, &i};", "0:c64:@a 8:c64:0L 16:c64:@i"}, {"int (*x[2])(int) = {f, &e};", "0:c64:@f 8:c64:@e"},
		{"char x[4] = {'a', 'b'};", "0:c8s:97 1:c8s:98"}, {"char x[4] = \"abc\";", "0:c8s:97 1:c8s:98 2:c8s:99 3:c8s:0"}, {"char x[9] = \"ab\";", "0:c8s:97 1:c8s:98 2:c8s:0"}, {"char x[1] = \"\";", "0:c8s:0"}, {"unsigned char x[3] = \"\\xff\\x80\";", "0:c8u:255 1:c8u:128 2:c8u:0"}, {"char x[3] = \"\\xff\\x80\";", "0:c8s:-1 1:c8s:-128 2:c8s:0"}, {"char x[3] = \"é\";", "0:c8s:-61 1:c8s:-87 2:c8s:0"}, {"char x[2][3] = {\"ab\", \"c\"};", "0:c8s:97 1:c8s:98 2:c8s:0 3:c8s:99 4:c8s:0"}, {"char x[2][3] = {{'a'}, \"c\"};", "0:c8s:97 3:c8s:99 4:c8s:0"}, {"char x[4] = \"a\\0b\";", "0:c8s:97 1:c8s:0 2:c8s:98 3:c8s:0"},
		// records
		{"struct s x = {1};", "0:c8s:1"}, {"struct s x = {1, 2, \"abc\", &x};", "0:c8s:1 4:c32:2 8:c8s:97 9:c8s:98 10:c8s:99 11:c8s:0 16:c64:@x"}, {"struct s x = {1, 2, {3, 4}, 0};", "0:c8s:1 4:c32:2 8:c8s:3 9:c8s:4 16:c64:0L"}, {"struct s x[2] = {{1}, {2, 3}};", "0:c8s:1 24:c8s:2 28:c32:3"}, {"union u x = {5};", "0:c16s:5"}, {"union u x[2] = {{1}, {2.5}};", "0:c16s:1 8:c16s:2"}, {"struct w x = {{7}, {{1, 2}, {3, 4, \"\", sa}}};", "0:c16s:7 8:c8s:1 12:c32:2 32:c8s:3 36:c32:4 40:c8s:0 48:c64:@sa"}, {"struct w x[2] = {{{1}}, {{2}}};", "0:c16s:1 56:c16s:2"},
	} {
		begun(t, x.text, x.want)
	}
}

// P7.1: what globals can't begin with: ErrConst at the beginning that is wrong.
func TestBeginningFaults(t *testing.T) {
	for _, s := range []string{
		// numbers
		"int x = ¦i;", "int x = ¦x;", "int x = ¦nix;", "int x = 1 ¦+ 1;", "int x = ¦(int) 1;", "int x = ¦~1;", "int x = ¦!1;", "int x = ¦- -1;", "int x = ¦sizeof i;", "int x = ¦sizeof (int);", "int x = f¦(1);", "int x = 1 ¦? 2 : 3;", "int x = (1 ¦, 2);", "int x = i ¦= 1;", "int x = ¦&i;", "int x = ¦f;", "int x = ¦\"a\";", "int x = a¦[0];", "int x = ¦-i;", "int x = st¦.n;", "int x = ¦*p;", "int x = i¦++;", "int x = ¦a;", "double x = ¦p;", "double x = ¦&d;", "double x = 1.5 ¦+ 1;", "int x = ¦{1};", "int x = ¦{{1}};", "double x = ¦{1, 2};", "int x = ¦-nix;", "int x = ¦-\"a\";",
		"int x = ¦2147483648.0;", "int x = ¦-2147483649.0;", "unsigned x = ¦-1.0;", "unsigned x = ¦4294967296.0;", "unsigned long x = ¦-1.5;", "char x = ¦2147483648.0;", "unsigned char x = ¦-2147483649.5;", "short x = ¦99999999999.5;",
		// pointers
		"int *x = ¦1;", "int *x = ¦-0;", "int *x = ¦0.0;", "int *x = ¦i;", "int *x = ¦p;", "int *x = ¦&d;", "int *x = ¦&a;", "int *x = ¦&x;", "int *x = ¦ca;", "int *x = ¦m;", "int *x = ¦\"a\";", "int *x = ¦f;", "int *x = ¦&f;", "int *x = ¦nix;", "int *x = ¦&nix;", "int *x = ¦&a[1];", "int *x = a ¦+ 1;", "int *x = ¦&*a;", "int *x = ¦(int*) 0;", "int *x = ¦&st.n;", "int *x = ¦v;", "int *x = ¦{0};", "int *x = ¦{&i};", "int *x = ¦x;", "int *x = ¦*&p;", "int *x = ¦& &i;", "char *x = ¦&ca;", "char *x = ¦&uc;", "unsigned char *x = ¦&c;", "unsigned char *x = ¦\"a\";", "void *x = ¦\"a\";", "void *x = ¦a;", "void *x = ¦f;", "void *x = ¦&f;", "void *x = ¦v;", "void *x = ¦1;", "struct s *x = ¦&sa;", "struct s *x = ¦st;", "struct t *x = ¦&st;", "union s *x = ¦&st;", "int **x = ¦&a;", "int **x = ¦a;", "void **x = ¦&p;", "char **x = ¦\"a\";", "char *x = ¦{\"a\"};", "char *x = \"a\" ¦+ 1;", "char *x = ¦&\"a\";", "char *x = ¦-0;", "int *x = ¦-a;", "int *x = ¦-&i;", "int *x = ¦&later; int later;", "int *x = ¦~0;",
		"int (*x)(int) = ¦g;", "int (*x)(int) = ¦&g;", "int (*x)(int) = ¦fp;", "int (*x)(int) = ¦&fp;", "int (*x)(int) = ¦*f;", "int (*x)(void) = ¦f;", "int (*x)(int) = ¦1;", "int (*x)(int) = ¦& &f;", "int (*x)(int) = ¦i;", "int (*x)(int) = ¦&i;", "void (*x)(void) = ¦v;",
		// arrays
		"int x[2] = ¦1;", "int x[2] = ¦a;", "int x[2] = ¦0;", "int x[2] = ¦\"a\";", "int x[2] = ¦{1, 2, 3};", "int x[1] = ¦{nix, 2};", "int x[2] = {1, ¦nix};", "int x[2] = {1, ¦{2}};", "int x[2][2] = {¦1, 2};", "int x[2][2] = {{1}, ¦{2, 3, 4}};", "int x[2][2] = ¦{{1}, {2}, {3}};", "int x[2] = {1, 2 ¦+ 3};", "int x[2][2] = {{1, ¦i}};", "long x[2] = {¦\"a\"};", "int x[2][2] = {¦0};", "int x[2] = ¦nix;", "int x[2] = ¦&a;",
		"char x[2] = ¦\"ab\";", "char x[1] = ¦\"a\";", "unsigned char x[3] = ¦\"abc\";", "char x[2] = {¦\"a\"};", "char x[2] = ¦ca;", "short x[9] = ¦\"a\";", "char x[2][2] = ¦\"a\";", "char x[2][2] = {\"a\", ¦\"bc\"};", "char *x[2] = ¦\"a\";", "char x[2] = ¦'a';", "char x[2] = ¦{1, 2, 3};", "char x[3] = ¦\"é\\0\";", "char x[2] = (¦\"ab\");",
		// records
		"struct s x = ¦1;", "struct s x = ¦st;", "struct s x = ¦0;", "struct s x = ¦\"a\";", "struct s x = ¦{1, 2, \"a\", 0, 5};", "struct s x = {1, ¦\"a\"};", "struct s x = {1, 2, ¦\"abcd\"};", "struct s x = {1, 2, ¦3};", "struct s x = {¦{1}};", "struct s x = {1, 2, {3}, ¦st};", "struct s x = {1, 2, {3}, ¦&i};", "union u x = ¦{1, 2};", "union u x = ¦1;", "union u x = {¦\"a\"};", "union u x = {¦{1}};", "struct w x = {¦1};", "struct w x = {¦{1, 2}};", "struct w x = {{1}, {¦1}};", "struct w x = {{1}, ¦{{1}, {2}, {3}}};", "struct w x = ¦{nix, nix, nix};", "struct s x = ¦{nix, 2, 3, 4, 5};", "union u x = ¦{nix, nix};", "struct s x[2] = {{1}, ¦2};", "struct s x[1] = ¦{{1}, {2}};", "struct s x = {1, ¦i, nix};",
	} {
		wantError(t, api.ErrConst, before+s)
	}
}

// P7.1: strings are variables, in the order in which they are checked.
func TestStrings(t *testing.T) {
	wantVars(t, `char *x = "a\xff"; int y;`, "x:8/8 0:c64:@.s0", "y:4/4", ".s0:3/1! 0:c8s:97 1:c8s:-1 2:c8s:0")
	wantVars(t, `char *x[3] = {"", 0, "é"};`, "x:24/8 0:c64:@.s0 8:c64:0L 16:c64:@.s1", ".s0:1/1! 0:c8s:0", ".s1:3/1! 0:c8s:-61 1:c8s:-87 2:c8s:0")
	wantVars(t, `char x[2] = "a"; char *y = "b"; char z[2] = "c"; char *w = "b";`, "x:2/1 0:c8s:97 1:c8s:0", "y:8/8 0:c64:@.s0", "z:2/1 0:c8s:99 1:c8s:0", "w:8/8 0:c64:@.s1", ".s0:2/1! 0:c8s:98 1:c8s:0", ".s1:2/1! 0:c8s:98 1:c8s:0")
	wantVars(t, `struct s { char *p; char t[2]; char *q; }; struct s x = {"a", "b", "c"};`, "x:24/8 0:c64:@.s0 8:c8s:98 9:c8s:0 16:c64:@.s1", ".s0:2/1! 0:c8s:97 1:c8s:0", ".s1:2/1! 0:c8s:99 1:c8s:0")
	text, strs := "int f(char *a, char *b) { return 0; } void g() { int i;", 0
	for _, s := range []string{
		`"%";`, `*"%";`, `sizeof "%";`, `sizeof sizeof "%";`, `f("%", "%");`, `f("%" + 1, "%" - 1);`, `i ? "%" : "%";`, `"%"["%"[0]];`, `(void) "%";`, `(char*) "%";`, `&"%";`, `!"%";`, `"%" == "%";`, `char *p = "%";`, `p = "%";`, `p += *"%";`, `"%", "%";`, `"%" && "%";`, `if ("%") "%"; else "%";`, `while ("%") "%";`, `do "%"; while ("%");`, `for ("%"; "%"; "%") "%";`, `switch (*"%") { case 1: "%"; }`, `i = f("%", "%") + f("%", "%");`, `-*"%";`, `i += *"%" + *"%";`,
	} {
		for strings.Contains(s, "%") {
			s = strings.Replace(s, "%", fmt.Sprintf("%02d", strs), 1)
			strs++
		}
		text += "{ char *p; {" + s + "} }"
	}
	u := checked(t, text+"}")
	if len(u.Vars) != strs {
		t.Fatalf("%d strings, not %d", len(u.Vars), strs)
	}
	for i, v := range u.Vars {
		n := fmt.Sprintf("%02d", i)
		if got, want := varText(v), fmt.Sprintf(".s%d:3/1! 0:c8s:%d 1:c8s:%d 2:c8s:0", i, n[0], n[1]); got != want {
			t.Errorf("%s, not %s", got, want)
		}
	}
}
