package core_test

import (
	"testing"

	"alembic/api"
	"alembic/core"
)

// P8.1: the document's examples.
func TestExamples(t *testing.T) {
	const get = "extern int get(int a); "
	wantAll(t, []row{
		{text: "int main() { return 3; }", want: "exited 3 [2]"},
		{text: get + "int main() { return get(1) - get(2); }", script: []int64{10, 3}, want: "get(1) = 10; get(2) = 3; exited 7 [2]"},
		{text: get + "int main() { return get(1) - get(2); }", picks: []int{1}, script: []int64{10, 3}, want: "get(2) = 10; get(1) = 3; exited -7 [2]"},
		{text: "int main() { int x; return x; }", want: "wrong [2]"},
		{text: "int main() { int x; int y = x; return 0; }", want: "exited 0 [3]"},
		{text: get + "int main() { int s = 0; for (int i = 0; i < 2; i++) s += get(i); return s; }", script: []int64{20, 22}, want: "get(0) = 20; get(1) = 22; exited 42 [11]"},
		{text: get + "int sq(int a) { return a * a; } int main() { int s = 0; for (int i = 0; i < 3; i++) s += sq(get(i)); return s; }", script: []int64{1, 2, 3}, want: "get(0) = 1; get(1) = 2; get(2) = 3; exited 14 [20]"},
	})
	if o := core.Run(unitOf(t, "int main() { return 3; }"), nil, nil, 1); !sameOutcome(o, api.Outcome{Status: api.Running, Steps: 1}) {
		t.Error(o)
	}
}

// P8.1: what expressions come to.
func TestExpressions(t *testing.T) {
	wantMain(t, "int z; int f(int a) { return a + 1; }", [][2]string{
		{"return 7 / 2 * 10 + 7 % 3 - (1 << 4);", "exited 15"},
		{"return -2147483647 - 1;", "exited -2147483648"},
		{"return 2147483647 + 1;", "exited -2147483648"},
		{"return (7 ^ 2) + (6 & 3) + (8 | 1) + ~0 + !5 + !0;", "exited 16"},
		{"return 1 ? 2 : 1 / z;", "exited 2"},
		{"return z ? 1 / z : 3;", "exited 3"},
		{"return z && 1 / z;", "exited 0"},
		{"return 1 || 1 / z;", "exited 1"},
		{"return (2 && 3) * 10 + (2 && 0);", "exited 10"},
		{"return (0 || 4) * 10 + (0 || 0);", "exited 10"},
		{"return (0.5 && &z) + (0.0 || -0.0) * 2;", "exited 1"},
		{"return 1 && 1 / z;", "wrong"},
		{"return 0 || 1 / z;", "wrong"},
		{"int x; return 0 && x;", "exited 0"},
		{"int x; return 1 && x;", "wrong"},
		{"int x; return 0 || x;", "wrong"},
		{"int x; return x && 0;", "wrong"},
		{"int x; return x ? 1 : 1;", "wrong"},
		{"int x; return !x;", "wrong"},
		{"int x; return -x;", "wrong"},
		{"int x; return x - x;", "wrong"},
		{"int x; return x, 2;", "exited 2"},
		{"int x; return 1 ? 4 : x;", "exited 4"},
		{"int x; return 0 ? 4 : x;", "wrong"},
		{"return 1 / z, 2;", "wrong"},
		{"return 1 % z;", "wrong"},
		{"return (-2147483647 - 1) / (z - 1);", "wrong"},
		{"return 1 << 31 + z;", "exited -2147483648"},
		{"return 1 << 32 + z;", "wrong"},
		{"return 1 >> z - 1;", "wrong"},
		{"return (int) (1ul << 63 >> 62) + (int) (-8L >> 1);", "exited -2"},
		{"return (unsigned) -1 / 2 == 2147483647 && -1 < 0 && -1 > 0u;", "exited 1"},
		{"char c = 300; return c;", "exited 44"},
		{"char c; return c = 200;", "exited -56"},
		{"unsigned char c = -1; return c + 1;", "exited 256"},
		{"short s = 65535; unsigned short u = s; return s * 100000 + u;", "exited -34465"},
		{"long l = 1; l <<= 40; return l / 1048576 / 1024;", "exited 1024"},
		{"double d = 1; d /= 4; return (int) (d * 8 + 0.75);", "exited 2"},
		{"double d = 0; d /= d; return (d == d) + (d != d) * 2;", "exited 2"},
		{"double d = 4294967296; return (int) d;", "wrong"},
		{"double d = -2.9; return (int) d;", "exited -2"},
		{"int x = 5; int y = x++; return x * 10 + y;", "exited 65"},
		{"int x = 5; int y = ++x; return x * 10 + y;", "exited 66"},
		{"int x = 5; int y = x-- - --x; return x * 10 + y;", "exited 32"},
		{"char c = 127; int x = c++; return c * 1000 + x;", "exited -127873"},
		{"unsigned char c = 0; int x = --c; return x;", "exited 255"},
		{"int x = 6; int y = x += 4; return x * 100 + y;", "exited 1010"},
		{"int x = 7; x -= 1; x *= 5; x /= 4; x %= 5; x <<= 3; x >>= 1; x |= 1; x ^= 4; x &= 13; return x;", "exited 13"},
		{"char c = 100; int x = c += 100; return c - x;", "exited 0"},
		{"double d = 1.5; d++; return (int) (d++ + d);", "exited 6"},
		{"int x = 3; x += 0.75; x *= 1.5; return x;", "exited 4"},
		{"int x; x++; return 0;", "wrong"},
		{"int x; x += 1; return 0;", "wrong"},
		{"int x; int y; x = y; return 0;", "exited 0"},
		{"int x; return (x = 4) + x;", "exited 8"},
		{"int a[3]; int *p = a; *p++ = 1; *p++ = 2; *p = 4; return a[0] + 10 * a[1] + 100 * a[2] + (int) (p - a);", "exited 423"},
		{"int a[3]; int *p = a + 3; *--p = 5; p -= 2; *p = 6; return a[0] * 10 + a[2];", "exited 65"},
		{"return f(f(f(3)));", "exited 6"},
		{"return (f)(1) + (*f)(2) + (&f)(3) + (**f)(4);", "exited 14"},
		{"int (*p)(int) = f; return p(1) + (*p)(2);", "exited 5"},
		{"return sizeof (z++) + z;", "exited 4"},
		{"(void) (z = 3); return z;", "exited 3"},
		{"1 ? (void) (z = 3) : (void) (z = 4); return z;", "exited 3"},
		{"z = 1, z += 2, z *= 3; return z;", "exited 9"},
	})
}

// P8.1: memory: what is loaded, stored, and beyond an object.
func TestMemory(t *testing.T) {
	wantMain(t, "int g; int ga[4]; struct r { char c; int i; struct r *n; double d; }; struct r s; union u { int i; unsigned char c[4]; long l; int *p; }; int *lost() { int x = 1; return &x; } int *kept(int *p) { return p; } int through(int *p) { *p += 1; return *p; }", [][2]string{
		{"int x = 1; int *p = &x; *p += 4; return x;", "exited 5"},
		{"int a[3]; a[1] = 7; return *(a + 1) + 1[a];", "exited 14"},
		{"int a[3]; return a[1];", "wrong"},
		{"int a[3]; a[3] = 1; return 0;", "wrong"},
		{"int a[3]; a[-1] = 1; return 0;", "wrong"},
		{"int a[3]; int b[3]; *(a + 2) = 3; *(b + 0) = 4; return a[2];", "exited 3"},
		{"return ga[3] + g;", "exited 0"},
		{"return ga[4];", "wrong"},
		{"return ga[-1];", "wrong"},
		{"return *(&g + 1);", "wrong"},
		{"int a[2][3]; for (int i = 0; i < 6; i++) a[i / 3][i % 3] = i; return a[1][0] * 10 + a[0][2];", "exited 32"},
		{"int a[2][3]; a[0][4] = 7; return a[1][1];", "exited 7"},
		{"s.c = 1; s.i = 20; s.n = &s; s.d = 0.5; return s.n->n->i + s.n->c + (int) (s.n->d * 2);", "exited 22"},
		{"struct r l; l.i = 3; struct r *p = &l; return p->i + (l.c, 0);", "exited 3"},
		{"return s.n == 0 && s.d == 0 && !s.i && !s.c;", "exited 1"},
		{"return s.n->i;", "wrong"},
		{"s; *&s; return 0;", "exited 0"},
		{"struct r *p; p; return 0;", "exited 0"},
		{"struct r *p; *p; return 0;", "exited 0"},
		{"struct r *p; p->i; return 0;", "wrong"},
		{"struct r *p = 0; *p; return 0;", "exited 0"},
		{"struct r *p = 0; p->c; return 0;", "wrong"},
		{"union u x; x.i = 258; return x.c[0] * 10 + x.c[1];", "exited 21"},
		{"union u x; x.i = 258; return (int) x.l;", "wrong"},
		{"union u x; x.l = 0; x.c[2] = 1; return x.i;", "exited 65536"},
		{"union u x; x.p = &g; return *x.p;", "exited 0"},
		{"union u x; x.p = &g; return x.i;", "wrong"},
		{"union u x; x.p = &g; return x.l != 0;", "exited 1"},
		{"union u x; x.p = &g; x.c[3] = 0; return x.p == &g;", "wrong"},
		{"union u x; x.p = &g; long l = x.l; union u y; y.l = l; *y.p = 8; return g;", "exited 8"},
		{"union u x; x.p = ga; x.l += 4; return x.p - ga;", "exited 1"},
		{"union u x; x.p = ga; x.l *= 4; return 0;", "wrong"},
		{"union u x; x.p = &g; return (int) x.l;", "wrong"},
		{"union u x; x.p = &g; switch (x.l) { default: ; } return 0;", "wrong"},
		{"union u x; x.l = 1; return *x.p;", "wrong"},
		{"union u x; x.l = 0; return x.p == 0;", "exited 1"},
		{"int *p; *p = 1; return 0;", "wrong"},
		{"int *p = 0; return *p;", "wrong"},
		{"char c[8]; *(int *) (c + 4) = 7; return c[4];", "exited 7"},
		{"char c[8]; *(int *) (c + 2) = 7; return c[2];", "wrong"},
		{"char c[8]; *(int *) (c + 8) = 7; return 0;", "wrong"},
		{"int *p = lost(); return *p;", "wrong"},
		{"int *p = lost(); *p = 1; return 0;", "wrong"},
		{"int *p = lost(); int *q = p; return p == q;", "exited 1"},
		{"int *p = lost(); return p == &g;", "wrong"},
		{"int *p = lost(); return p == 0;", "exited 0"},
		{"int *p = lost(); return p ? 3 : 4;", "exited 3"},
		{"int x = 4; return *kept(&x) + through(&x) + x;", "exited 14"},
		{"int a; int b; return (&a == &b) + 2 * (&a != &b) + 4 * (&a == &a);", "exited 6"},
		{"int a; int b; return &a < &b;", "wrong"},
		{"int a[2]; return (a < a + 1) + (a + 2 > a + 1) * 2 + (a >= a + 1) * 4;", "exited 3"},
		{"int a[2]; return a < a + 3;", "wrong"},
		{"int a[2]; int *p = a + 3; return p - a;", "exited 3"},
		{"int a[2]; int b[2]; return a - b;", "wrong"},
		{"int a[2]; int b[2]; return a + 2 == b;", "wrong"},
		{"int a[2]; int *p = a + 1000; p -= 999; *p = 4; return a[1];", "exited 4"},
		{"int *p; int *q = p; return 0;", "exited 0"},
		{"int *p; p++; return 0;", "wrong"},
		{"int **pp; int *p = &g; pp = &p; **pp = 3; return g;", "exited 3"},
		{"for (int i = 0; i < 3; i++) { int x; if (i == 0) x = 7; if (i == 2) return x; } return 0;", "exited 7"},
	})
}

// P8.1: what variables are at the beginning.
func TestBeginnings(t *testing.T) {
	wantMain(t, `int a = 5; char c = -1; unsigned char uc = -1; short s = 70000; long l = 1; double d = 2; int *p = &a; int **pp = &p; char *text = "hi"; char own[4] = "no"; int ia[5] = {1, 2}; struct r { char c; int i; struct r *n; }; struct r r = {3, 4, &r}; struct r *rp = &r; int f(int x) { return x * 2; } int (*fp)(int) = f; int (*fq[2])(int) = {&f}; union u { int i; char c[8]; }; union u u = {258}; char big[1048576]; long bigl[131072]; double table[2][2] = {{1, 2}, {3}}; void *v = &a; int *ip = ia;`, [][2]string{
		{"return a;", "exited 5"},
		{"return c * 1000 + uc;", "exited -745"},
		{"return s;", "exited 4464"},
		{"return (int) l + (int) d;", "exited 3"},
		{"return *p + **pp;", "exited 10"},
		{"**pp = 6; return a;", "exited 6"},
		{"return text[0] + text[1] * 1000 + text[2];", "exited 105104"},
		{"return text[3];", "wrong"},
		{"text[0] = 1; return 0;", "wrong"},
		{"own[0] = 1; return own[0] + own[1] + own[2] + own[3];", "exited 112"},
		{"return own[4];", "wrong"},
		{`return "ab"[1] + *"c" + sizeof "abc";`, "exited 201"},
		{`"ab"[1] = 1; return 0;`, "wrong"},
		{`return "ab" == "ab";`, "exited 0"},
		{"return ia[0] * 10 + ia[1] + ia[2] + ia[3] + ia[4];", "exited 12"},
		{"return r.c + r.i * 10 + r.n->i * 100 + rp->n->n->c * 1000;", "exited 3443"},
		{"return fp(4) + fq[0](5);", "exited 18"},
		{"return fq[1](5);", "wrong"},
		{"return u.i + u.c[1] * 1000 + u.c[7];", "exited 1258"},
		{"return big[0] + big[1048575] + big[524288];", "exited 0"},
		{"return big[1048576];", "wrong"},
		{"big[700] = 3; big[256] = 4; return big[700] + big[699] + big[701] + big[255] + big[256] + big[257];", "exited 7"},
		{"return bigl[131071] == 0 && bigl[31] == 0 && bigl[32] == 0 && !*(double *) &bigl[77];", "exited 1"},
		{"*(int **) &bigl[99] = &a; return **(int **) &bigl[99] + (bigl[98] == 0) + (bigl[100] == 0);", "exited 7"},
		{"return (int) (table[0][1] * 10 + table[1][0] + table[1][1]);", "exited 23"},
		{"return *(int *) v + *ip;", "exited 6"},
		{"return ip[4] + (ip == ia) + (ip + 5 > ia);", "exited 2"},
	})
}

// P8.1: a great variable costs no more than what is used of it.
func TestGreatVariables(t *testing.T) {
	text := ""
	for range 500 {
		text += "char v" + string(rune('a'+len(text)%26)) + string(rune('a'+len(text)/26%26)) + string(rune('a'+len(text)/676)) + "[1048576];"
	}
	row{text: text + "int main() { return vaaa[1048575]; }", want: "exited 0 [2]"}.check(t)
}

// P8.1: functions, from outside and not.
func TestCalls(t *testing.T) {
	const outside = "extern int get(int a); extern long getl(long a, int b); extern double getd(double d); extern void put(int a); extern int none(); extern long tell(int *p); "
	for _, r := range []struct {
		text   string
		script []int64
		want   string
	}{
		{"int main() { return none(); }", nil, "none() = 0; exited 0 [2]"},
		{"int main() { return none() + none() * 10; }", []int64{7}, "none() = 7; none() = 0; exited 7 [2]"},
		{"int main() { return get(4294967299L); }", []int64{-4294967295}, "get(3) = 1; exited 1 [2]"},
		{"int main() { long l = getl(-1, 2); return l >> 32; }", []int64{1 << 33}, "getl(-1L, 2) = 8589934592L; exited 2 [3]"},
		{"int main() { return (int) (getd(0.5) / 2); }", []int64{9}, "getd(0x3fe0000000000000) = 0x4022000000000000; exited 4 [2]"},
		{"int main() { put(none()); put(get(none())); return 0; }", []int64{1, 99, 3, 4}, "none() = 1; put(1); none() = 3; get(3) = 4; put(4); exited 0 [4]"},
		{"int main() { get(1); put(2); return get(3); }", []int64{1, 2, 3}, "get(1) = 1; put(2); get(3) = 3; exited 3 [4]"},
		{"int main() { int x; put(1); put(x); return 0; }", nil, "put(1); wrong [3]"},
		{"int main() { int x; tell(&x); return 0; }", nil, "wrong [2]"},
		{"int main() { tell(0); return 0; }", nil, "tell(0L) = 0L; exited 0 [3]"},
		{"int main() { int *p; tell(p); return 0; }", nil, "wrong [2]"},
		{"union u { long l; int *p; }; int x; int main() { union u u; u.p = 0; getl(u.l, 1); u.p = &x; getl(u.l, 0); return 0; }", nil, "getl(0L, 1) = 0L; wrong [5]"},
		{"void f() { put(1); } int main() { f(); return 0; }", nil, "put(1); exited 0 [5]"},
		{"void f() { put(1); return; put(2); } int main() { f(); f(); return 0; }", nil, "put(1); put(1); exited 0 [10]"},
		{"int f() { } int main() { f(); return 0; }", nil, "exited 0 [4]"},
		{"int f() { } int main() { return f(); }", nil, "wrong [3]"},
		{"int f() { } int main() { int x = f(); put(1); return x; }", nil, "put(1); wrong [5]"},
		{"int main() { }", nil, "wrong [1]"},
		{"int main() { put(5); }", nil, "put(5); wrong [2]"},
		{"int f(int n) { if (n < 2) return n; return f(n - 1) + f(n - 2); } int main() { return f(7); }", nil, "exited 13 [125]"},
		{"int odd(int n); int even(int n) { return n == 0 ? 1 : odd(n - 1); } int odd(int n) { return n == 0 ? 0 : even(n - 1); } int main() { return even(9) * 10 + odd(9); }", nil, "exited 1 [42]"},
		{"int f(char c, unsigned char u, short s, long l, double d) { return c + u + s + (int) l + (int) d; } int main() { return f(257, -1, 65537, 3, 1.5); }", nil, "exited 261 [4]"},
		{"int f(int a) { a++; return a; } int main() { int a = 1; f(a); return a + f(a); }", nil, "exited 3 [10]"},
		{"int f(int a, int b) { return a * 10 + b; } int main() { return f(1, 2); }", nil, "exited 12 [4]"},
		{"int f(int x) { return 0; } int main() { int x; return f(x); }", nil, "exited 0 [4]"},
		{"int f(int x) { return x + 1; } int main() { int x; return f(x); }", nil, "wrong [4]"},
		{"int f(int *p) { int x = 5; if (p) return *p + x; return f(&x); } int main() { return f(0); }", nil, "exited 10 [10]"},
		{"int f(int n) { int x; if (n) { x = n; f(n - 1); return x; } x = 9; return x; } int main() { return f(3); }", nil, "exited 3 [21]"},
		{"int main() { int (*p)(int) = get; return p(3); }", []int64{8}, "get(3) = 8; exited 8 [3]"},
		{"int main() { int (*p)(int); return p(3); }", nil, "wrong [2]"},
		{"int main() { int (*p)(int) = 0; return p(3); }", nil, "wrong [3]"},
		{"int x; int main() { int (*p)(int) = (int (*)(int)) &x; return p(3); }", nil, "wrong [3]"},
		{"int f(int a) { return a; } int main() { return ((int (*)(unsigned)) f)(3); }", nil, "exited 3 [4]"},
		{"int f(int a) { return a; } int main() { return ((int (*)(long)) f)(3); }", nil, "wrong [2]"},
		{"int f(int a) { return a; } int main() { return ((int (*)(int, int)) f)(3, 4); }", nil, "wrong [2]"},
		{"int f(int a) { return a; } int main() { return ((int (*)()) f)(); }", nil, "wrong [2]"},
		{"int f(int a) { return a; } int main() { return (int) ((long (*)(int)) f)(3); }", nil, "wrong [2]"},
		{"int f(int a) { return a; } int main() { ((void (*)(int)) f)(3); return 0; }", nil, "wrong [2]"},
		{"int main() { return ((int (*)(long)) get)(3); }", nil, "wrong [2]"},
		{"int main() { return ((int (*)(int)) getd)(3); }", nil, "wrong [2]"},
		{"int main() { return ((int (*)()) ((char *) none + 1))(); }", nil, "wrong [2]"},
		{"int main() { return ((int (*)()) ((char *) none + 1 - 1))(); }", []int64{6}, "none() = 6; exited 6 [2]"},
		{"int main() { return *(char *) none; }", nil, "wrong [2]"},
		{"int main() { *(char *) none; *(char *) main; return 0; }", nil, "exited 0 [4]"},
		{"int main() { ((char *) none)[1]; return 0; }", nil, "wrong [2]"},
		{"int main() { *(char *) main = 1; return 0; }", nil, "wrong [2]"},
		{"int main() { *(char *) none = 1; return 0; }", nil, "wrong [2]"},
		{"int f() { return 1; } int main() { return (f == f) + (f == none) * 2 + (f != main) * 4 + (!f) * 8; }", nil, "exited 5 [2]"},
		{"int n; int main() { if (n++ < 3) return main() + 1; return 5; }", nil, "exited 8 [12]"},
		{"void f(int n) { put(n); if (n) f(n - 1); put(n); } int main() { f(2); return 0; }", nil, "put(2); put(1); put(0); put(0); put(1); put(2); exited 0 [17]"},
		{"int x = 3;", nil, "wrong [0]"},
		{"", nil, "wrong [0]"},
		{"int main;", nil, "wrong [0]"},
		{"int mains() { return 1; }", nil, "wrong [0]"},
	} {
		row{text: outside + r.text, script: r.script, want: r.want}.check(t)
	}
}
