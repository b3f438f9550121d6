package passes

import "testing"

// P10.1, P11.1: what functions become, with fewer locals, and then in one frame.
func TestShapes(t *testing.T) {
	for _, r := range []struct{ text, fewer, minor string }{
		// the document's examples
		{"int f(int a) { int x = a; return x + a; }", "f(t0) [] t1 = t0; return (add t1 t0)", "f(t0) [] t1 = t0; return (add t1 t0)"},
		{"int f(int a) { int *p = &a; return *p; }", "f(l0) [4/4/c32] t0 = l0; return (c32 t0)", "f(t1) [] 8 put (c32 f0) t1; t0 = f0; return (c32 t0)"},
		{"int f() { char c = 3; return c; }", "f() [1/1/c8s] put (c8s l0) (s8 3); return (c8s l0)", "f() [] 8 put (c8s f0) (s8 3); return (c8s f0)"},
		// parameters of each kind
		{"double f(int a, long b, double c) { return c; }", "f(t0 t1 t2) [] return t2", ""},
		{"int f(char a, unsigned short b, int c, unsigned char d) { return c; }", "f(l0 l1 t0 l2) [1/1/c8s 2/2/c16u 1/1/c8u] return t0", "f(t1 t2 t0 t3) [] 8 put (c8s f0) t1; put (c16u f2) t2; put (c8u f4) t3; return t0"},
		{"long f(long a, double *b, int (*c)(int)) { double **p = &b; return a; }", "f(t0 l0 t1) [8/8/c64] t2 = l0; return t0", "f(t0 t3 t1) [] 8 put (c64 f0) t3; t2 = f0; return t0"},
		{"double f(double a, double b) { double *p = &a; return b; }", "f(l0 t0) [8/8/cf64] t1 = l0; return t0", "f(t2 t0) [] 8 put (cf64 f0) t2; t1 = f0; return t0"},
		// records, unions and arrays stay, whatever is loaded there
		{"struct s { int n; }; int f() { struct s x; x.n = 1; return x.n; }", "f() [4/4/-] put (c32 l0) 1; return (c32 l0)", "f() [] 8 put (c32 f0) 1; return (c32 f0)"},
		{"union u { long n; }; long f() { union u x; x.n = 1; return x.n; }", "f() [8/8/-] put (c64 l0) (longs 1); return (c64 l0)", ""},
		{"int f() { int x[1]; *x = 1; return *x; }", "f() [4/4/-] put (c32 l0) 1; return (c32 l0)", ""},
		// what is loaded as another chunk stays
		{"int f() { int x; *(char *) &x = 1; return x; }", "f() [4/4/c32] put (c8s l0) (s8 1); return (c32 l0)", ""},
		{"long f() { double x = 1.0; return *(long *) &x; }", "f() [8/8/cf64] put (cf64 l0) D0; return (c64 l0)", ""},
		{"double f() { double x = 0.0; return *&x; }", "f() [] t0 = D0; return t0", ""},
		{"int f() { int x = 1; unsigned *p; p = 0; return *(unsigned *) &x; }", "f() [] t0 = 1; t1 = L0; return t0", ""},
		// what nobody asks for
		{"void f() { int x; char c; long a[2]; }", "f() [1/1/c8s 16/8/-] ", "f() [] 24 "},
		{"void f() { int x; x; &x; }", "f() [] t0 = t1", ""},
		// places
		{"int f() { char a; int b[2]; char c[9]; short d; return a; }", "f() [1/1/c8s 8/4/- 9/1/- 2/2/c16s] return (c8s l0)", "f() [] 32 return (c8s f0)"},
		{"int f() { char a; char b[3]; char c[5]; int n; *c = b[1]; return *(&n + a); }", "", "f() [] 24 put (c8s f8) (c8s (addl f2 (mull (longs 1) L1))); return (c32 (addl f16 (mull (longs (c8s f0)) L4)))"},
	} {
		u := lightOf(t, r.text)
		fewer := fewerOf(t, r.text, u)
		minorOf(t, r.text, u)
		got, minor := funcText(fewer.Funcs[0]), funcText(minorOf(t, r.text, fewer).Funcs[0])
		if r.fewer != "" && got != r.fewer {
			t.Errorf("%s\nis\n%s\nnot\n%s", r.text, got, r.fewer)
		}
		if r.minor != "" && minor != r.minor {
			t.Errorf("%s\nis\n%s\nnot\n%s", r.text, minor, r.minor)
		}
	}
}
