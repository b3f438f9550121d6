package check_test

import (
	"strings"
	"testing"

	"alembic/api"
)

// P7.1: the document's examples.
func TestExamples(t *testing.T) {
	wantUnit(t, "int main() { char c = 1; c += 2; return c; }",
		"func main int() 1/1/c8s {(do (assign c8s $0 (s8 1))) (do (modify c8s $0 2 (s8 (add old arg)))) (return (load c8s $0))}")
	wantUnit(t, "int a[3]; int f(long i) { return a[i]; }",
		"var a:12/4\nfunc f int(long) 8/8/c64=p {(return (load c32 (addl @a (mull (load c64 $0) 4L))))}")
	wantUnit(t, "extern int get(int a); int main() { int s = 0; for (int i = 0; i < 2; i++) s += get(i); return s; }",
		"extern get int(int)\nfunc main int() 4/4/c32 4/4/c32 {(do (assign c32 $0 0)) (block {(do (assign c32 $1 0)) (loop (lt (load c32 $1) 2) {(do (modify c32 $0 (call int(int) @get (load c32 $1)) (add old arg)))} {(do (back c32 $1 1 (add old arg)))})}) (return (load c32 $0))}")
	wantUnit(t, "extern int get(int a); int sq(int a) { return a * a; } int main() { int s = 0; for (int i = 0; i < 3; i++) s += sq(get(i)); return s; }",
		"extern get int(int)\nfunc sq int(int) 4/4/c32=p {(return (mul (load c32 $0) (load c32 $0)))}\nfunc main int() 4/4/c32 4/4/c32 {(do (assign c32 $0 0)) (block {(do (assign c32 $1 0)) (loop (lt (load c32 $1) 3) {(do (modify c32 $0 (call int(int) @sq (call int(int) @get (load c32 $1))) (add old arg)))} {(do (back c32 $1 1 (add old arg)))})}) (return (load c32 $0))}")
}

// P7.1: the parts of a unit, in their orders.
func TestUnits(t *testing.T) {
	for _, x := range []struct {
		text string
		want []string
	}{
		{"", nil},
		{"int x;", []string{"var x:4/4"}},
		{"struct s { char c; long l; }; struct s x; struct s y[3]; union u { int i; char c[5]; }; union u z;", []string{"var x:16/8", "var y:48/8", "var z:8/4"}},
		{"char a; short b; int c; long d; double e; char *f; void *g; struct un *h; int (*i)(struct un, void); unsigned char j; int (*k[2])(); void (*l)(void);", []string{"var a:1/1", "var b:2/2", "var c:4/4", "var d:8/8", "var e:8/8", "var f:8/8", "var g:8/8", "var h:8/8", "var i:8/8", "var j:1/1", "var k:16/8", "var l:8/8"}},
		{"char *x = \"b\"; int f() { \"c\"; return 0; } int y; char *z = \"a\";", []string{"var x:8/8 0:c64:@.s0", "var y:4/4", "var z:8/8 0:c64:@.s2", "var .s0:2/1! 0:c8s:98 1:c8s:0", "var .s1:2/1! 0:c8s:99 1:c8s:0", "var .s2:2/1! 0:c8s:97 1:c8s:0", "func f int() {(do @.s1) (return 0)}"}},
		{"int f(); extern int e(int a); int x; int g() { return f() + e(x); } extern void d(void); int f() { return g(); }", []string{"var x:4/4", "extern e int(int)", "extern d none()", "func g int() {(return (add (call int() @f) (call int(int) @e (load c32 @x))))}", "func f int() {(return (call int() @g))}"}},
		{"int f(int a); int f(int b); int f(int c) { return c; } int f(int d);", []string{"func f int(int) 4/4/c32=p {(return (load c32 $0))}"}},
		{"int f(int a) { return f(a - 1); }", []string{"func f int(int) 4/4/c32=p {(return (call int(int) @f (sub (load c32 $0) 1)))}"}},
		{"extern void a(); extern int b(char a, unsigned char b, short c, unsigned short d, int e, unsigned f, long g, unsigned long h, double i, int *j, void *k, int (*l)()); extern long c(); extern unsigned d(); extern double e(); extern char *f(); extern unsigned long g();", []string{"extern a none()", "extern b int(int,int,int,int,int,int,long,long,double,long,long,long)", "extern c long()", "extern d int()", "extern e double()", "extern f long()", "extern g long()"}},
		{"void f(char a, short *b, double c, unsigned short d, void (*e)(void)) { char g; struct s *h; double i[2]; int j; }", []string{"func f none(int,long,double,int,long) 1/1/c8s=p 8/8/c64=p 8/8/cf64=p 2/2/c16u=p 8/8/c64=p 1/1/c8s 8/8/c64 16/8/none 4/4/c32 {}"}},
		{"struct s { char c; struct s *p; short t[3]; }; void f() { struct s a; union u *b; struct s c[2]; { unsigned char d; } for (unsigned e; ; ) { unsigned long g; } }", []string{"func f none() 24/8/none 8/8/c64 48/8/none 1/1/c8u 4/4/c32 8/8/c64 {(block {}) (block {(loop _ {(block {})} {})})}"}},
		{"char f() { return 1; } unsigned char g() { return 1; } short h() { return 1; } unsigned short i() { return 1; }", []string{"func f int() {(return (s8 1))}", "func g int() {(return (u8 1))}", "func h int() {(return (s16 1))}", "func i int() {(return (u16 1))}"}},
		{"struct main { int main; }; int main() { struct main m; return m.main; }", []string{"func main int() 4/4/none {(return (load c32 $0))}"}},
		{"int main(); int f() { return main(); } int main() { return 0; }", []string{"func f int() {(return (call int() @main))}", "func main int() {(return 0)}"}},
		{"int main;", []string{"var main:4/4"}},
		{"double main[2]; int x = 3;", []string{"var main:16/8", "var x:4/4 0:c32:3"}},
		{"struct x { int x; }; struct x x; int f(int f) { return x.x + f; }", []string{"var x:4/4", "func f int(int) 4/4/c32=p {(return (add (load c32 @x) (load c32 $0)))}"}},
		{"struct a { struct b *b; }; struct b { struct a a; int c; }; struct a x; int f() { return x.b->a.b->c; }", []string{"var x:8/8", "func f int() {(return (load c32 (addl (load c64 (load c64 @x)) 8L)))}"}},
		{"void f(struct r *p); struct r { int k; }; void f(struct r *p) { p->k; }", []string{"func f none(long) 8/8/c64=p {(do (load c32 (load c64 $0)))}"}},
		{"char x[1048576]; struct s { char c[1048576]; }; struct s y;", []string{"var x:1048576/1", "var y:1048576/1"}},
	} {
		wantUnit(t, x.text, strings.Join(x.want, "\n"))
	}
}

// P7.1: records, variables and functions that can't stand there.
func TestUnitFaults(t *testing.T) {
	for _, x := range []struct {
		errno api.Errno
		text  string
	}{
		// records
		{api.ErrName, "struct s { int a; }; ¦struct s { int b; };"}, {api.ErrName, "struct s { int a; }; int x; ¦union s { int a; };"}, {api.ErrName, "¦struct s { int a; char a; };"}, {api.ErrName, "¦union s { int a; int b; int a; };"}, {api.ErrType, "¦struct s { void a; };"}, {api.ErrType, "¦struct s { int a; struct s b; };"}, {api.ErrType, "¦struct s { struct t a; }; struct t { int a; };"}, {api.ErrType, "union t { int a; }; ¦struct s { struct t a; };"}, {api.ErrType, "¦struct s { void a; int a; int a; };"}, {api.ErrName, "¦struct s { int a; int a; void b; };"}, {api.ErrType, "¦struct s { int a[1048576]; };"}, {api.ErrLimit, "¦struct s { char a[1048576]; char b; };"}, {api.ErrLimit, "¦struct s { char a[1048575]; short b; };"}, {api.ErrName, "struct s { int a; }; ¦struct s { void b; };"}, {api.ErrLimit, "int x;\n ¦struct s { char a[1048575]; long b; };"}, {api.ErrName, "¦struct s { char a[1048576]; char b; char b; };"},
		// variables
		{api.ErrName, "int x; ¦int x;"}, {api.ErrName, "int x; ¦char x = 1;"}, {api.ErrName, "int f(); ¦int f;"}, {api.ErrName, "extern int f(); ¦int f;"}, {api.ErrName, "int f() { return 1; } ¦int f = nix;"}, {api.ErrName, "int x; ¦void x;"}, {api.ErrType, "¦void x;"}, {api.ErrType, "¦struct s x;"}, {api.ErrType, "¦struct s x; struct s { int a; };"}, {api.ErrType, "struct s { int a; }; ¦union s x;"}, {api.ErrType, "¦void x[3];"}, {api.ErrType, "¦struct s x[3];"}, {api.ErrType, "¦int x[262145];"}, {api.ErrType, "¦int x[1024][1024];"}, {api.ErrType, "¦void x = nix;"}, {api.ErrType, "¦struct s x = {1};"},
		// functions
		{api.ErrName, "int f; ¦int f();"}, {api.ErrName, "int f; ¦int f() { return 1; }"}, {api.ErrName, "int f; ¦extern int f();"}, {api.ErrName, "extern int f(); ¦int f();"}, {api.ErrName, "extern int f(); ¦int f() { return 1; }"}, {api.ErrName, "extern int f(); ¦extern int f();"}, {api.ErrName, "int f(); ¦extern int f(); int f() { return 1; }"}, {api.ErrName, "int f() { return 1; } ¦extern int f();"}, {api.ErrName, "int f() { return 1; } ¦int f() { return 1; }"}, {api.ErrName, "int f() { return 1; } int f(); ¦int f() { return 1; }"}, {api.ErrName, "int f() { return 1; } ¦long f() { return 1; }"}, {api.ErrName, "int f; ¦struct s f(void a);"},
		{api.ErrType, "int f(); ¦long f();"}, {api.ErrType, "int f(int a); ¦int f(long a);"}, {api.ErrType, "int f(); ¦int f(int a) { return a; }"}, {api.ErrType, "int f(int a) { return a; } ¦int f();"}, {api.ErrType, "int f(int *a); ¦int f(char *a);"}, {api.ErrType, "int f(int a); ¦unsigned f(int a);"}, {api.ErrType, "int f(int a); ¦int f(unsigned a);"}, {api.ErrType, "int f(int a, int b); ¦int f(int a);"},
		{api.ErrType, "¦struct s f();"}, {api.ErrType, "struct s { int a; }; ¦struct s f();"}, {api.ErrType, "¦extern struct s f();"}, {api.ErrType, "¦int f(struct s a);"}, {api.ErrType, "struct s { int a; }; ¦int f(struct s a);"}, {api.ErrType, "¦int f(void a) { return nix; }"}, {api.ErrType, "¦int f(int a, void b);"}, {api.ErrType, "¦extern int f(union s a);"},
		{api.ErrType, "¦int main(int a) { return 1; }"}, {api.ErrType, "¦int main(int a);"}, {api.ErrType, "¦void main() { }"}, {api.ErrType, "¦long main() { return 1; }"}, {api.ErrType, "¦unsigned main() { return 1; }"}, {api.ErrType, "¦char main() { return 1; }"}, {api.ErrType, "¦short main();"}, {api.ErrType, "¦double main();"}, {api.ErrType, "¦int *main();"}, {api.ErrType, "¦extern int main();"}, {api.ErrType, "¦extern char main();"},
		{api.ErrType, "¦extern char f();"}, {api.ErrType, "¦extern unsigned char f();"}, {api.ErrType, "¦extern short f(int a);"}, {api.ErrType, "¦extern unsigned short f();"},
		{api.ErrName, "¦int f(int a, int a);"}, {api.ErrName, "¦int f(int a, int b, char *a) { return nix; }"}, {api.ErrName, "¦extern int f(int a, double a);"}, {api.ErrType, "¦extern char f(int a, int a);"}, {api.ErrType, "¦int f(int a, void a);"}, {api.ErrName, "¦int f(int a, int a) { x: x: ; }"}, {api.ErrType, "int f(); ¦int f(int a, int a);"}, {api.ErrType, "¦int main(int a, int a);"},
		// a body
		{api.ErrName, "int f() { return ¦g(); } int g() { return 1; }"}, {api.ErrName, "int f() { return ¦x; } int x;"}, {api.ErrName, "void f(int a) { } void g() { ¦a; }"}, {api.ErrName, "void f() { int a; } void g() { ¦a; }"}, {api.ErrName, "void f() { x: ; } void g() { ¦goto x; }"}, {api.ErrType, "void f() { ¦&f(); }"},
		// no body
		{api.ErrName, "¦int f();"}, {api.ErrName, "¦int f(); int g() { return f(); }"}, {api.ErrName, "int g() { return 1; } ¦int f(); int h(); int f();"}, {api.ErrName, "int f(); ¦int g(); int f() { return 1; }"}, {api.ErrName, "extern int e(); int g() { return e(); }\n\n  ¦void f(int a); void f(int b);"}, {api.ErrName, "¦int main();"}, {api.ErrName, "int f(); int g() { return ¦nix; }"}, {api.ErrType, "int f(); int x; int g(int a) { return 1; } ¦void y;"},
		// the first wrong one of the text
		{api.ErrType, "int x = 1; ¦void y; void z; int x;"}, {api.ErrConst, "int x = ¦x; void y;"}, {api.ErrName, "int f() { return ¦nix; } int f() { return nix; } void x;"},
	} {
		wantError(t, x.errno, x.text)
	}
}

// P7.1: a function's locals have 2^23 bytes together at most, each rounded up to a multiple of 8.
func TestRoomOfLocals(t *testing.T) {
	big := strings.Repeat("{ char b[1048576]; }", 7)
	most := big + "char x[1048568];"
	for _, x := range []struct {
		errno        api.Errno
		params, body string
	}{
		{api.OK, "", big + "char x[1048576];"}, {api.OK, "", most + "char y;"}, {api.OK, "", most + "long y;"}, {api.OK, "int a", most}, {api.OK, "", most + "char y[8];"}, {api.OK, "", most + "char y[1];"},
		{api.ErrLimit, "", big + "char x[1048576]; char y;"}, {api.ErrLimit, "char a", big + "char x[1048576];"}, {api.ErrLimit, "", most + "char y[9];"}, {api.ErrLimit, "", most + "char y; char z;"}, {api.ErrLimit, "char a", most + "char y;"}, {api.ErrLimit, "char a, char b", most}, {api.ErrLimit, "", big + big}, {api.ErrLimit, "", most + "for (char y; ; ) { char z; }"},
		{api.ErrName, "", big + big + "nix;"},
	} {
		switch x.errno {
		case api.OK:
			checked(t, "void f("+x.params+") {"+x.body+"}")
		case api.ErrLimit:
			wantError(t, x.errno, "int x;\n ¦void f("+x.params+") {"+x.body+"} void g() { nix; }")
		default:
			wantError(t, x.errno, "void f("+x.params+") {"+strings.Replace(x.body, "nix", "¦nix", 1)+"}")
		}
	}
}
