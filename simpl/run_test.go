package simpl_test

import (
	"reflect"
	"testing"

	"alembic/api"
	"alembic/core"
	"alembic/trace"
)

// costOf is P9.2's cost of a unit.
func costOf(u api.Unit) int {
	n := 0
	for _, f := range u.Funcs {
		n += len(f.Params) + partsOf(f.Body)
	}
	return 8*n + 40
}

// partsOf is how many statements, expressions and items there are.
func partsOf(list []api.Stmt) int {
	n := 0
	for _, s := range list {
		n += 1 + exprsOf(s.X) + partsOf(s.One) + partsOf(s.Two)
		for _, i := range s.Items {
			n++
			if !i.S.None() {
				n += partsOf([]api.Stmt{i.S})
			}
		}
	}
	return n
}

func exprsOf(list []api.Expr) int {
	n := 0
	for _, e := range list {
		if !e.None() {
			n += 1 + exprsOf(e.Kids)
		}
	}
	return n
}

// sameOutcome tells whether two outcomes are the same in all.
func sameOutcome(a, b api.Outcome) bool {
	return trace.Same(a, b) && a.Steps == b.Steps
}

// compare runs the Light of a unit with a fuel, and the unit, with the picks 0, with each of some fuels, and asks for P9.2 and P9.4; the last outcome of the unit.
func compare(t testing.TB, what string, u, light api.Unit, script []int64, lightFuel int, fuels ...int) api.Outcome {
	t.Helper()
	b := core.Run(light, nil, script, lightFuel)
	for _, picks := range [][]int{{1, 1, 1, 1, 1, 1, 1, 1, 1, 1, 1, 1}, {0, 1, 3, 0, 0, -1, 1, 0, 1, 1}} {
		if c := core.Run(light, picks, script, lightFuel); !sameOutcome(b, c) {
			t.Errorf("%s\npicks %v: %s, not %s", what, picks, shown(c), shown(b))
		}
	}
	var a api.Outcome
	for _, fuel := range fuels {
		a = core.Run(u, nil, script, fuel)
		if !trace.Refines(a, b) {
			t.Errorf("%s\nfuel %d: %s doesn't refine %s", what, fuel, shown(b), shown(a))
		}
		if a.Status == api.Running {
			continue
		}
		if b.Status == api.Running && (a.Steps+2)*costOf(u) <= lightFuel {
			t.Errorf("%s\nfuel %d: %s comes to no end, but %s", what, fuel, shown(b), shown(a))
		}
		// Beyond what the document asks, a run that goes wrong does so where the unit's does.
		if b.Status != api.Running && !trace.Same(a, b) {
			t.Errorf("%s\nfuel %d: %s, not %s", what, fuel, shown(b), shown(a))
		}
	}
	return a
}

// row is a program, a script, and what is shown by its run: the events and the end.
type row struct {
	text   string
	script []int64
	want   string
}

// check asks for what the Light of a row's program shows, and for all promises.
func (r row) check(t *testing.T) {
	t.Helper()
	u := unitOf(t, r.text)
	light := lightOf(t, r.text, u)
	compare(t, r.text, u, light, r.script, api.MaxFuel, 0, 1, 2, 3, 5, 8, 13, 50, api.MaxFuel)
	o := core.Run(light, nil, r.script, api.MaxFuel)
	if got := trace.Text(o); got != r.want+"\n" {
		t.Errorf("%s\n%s, not\n%s", r.text, got, r.want)
	}
	if again := lightOf(t, r.text, u); !reflect.DeepEqual(light, again) {
		t.Errorf("%s\nis something else the second time", r.text)
	}
}

const outside = "extern int get(int a); extern void put(int a); extern long getl(long a); extern double getd(double a); int g = 3; int z; int ga[4]; struct s { char c; int n; struct s *p; }; struct s gs; int f(int a) { put(a); return a + 1; } int add(int a, int b) { return a * 10 + b; } int *at(int a) { put(a); return ga + a; } void nothing(int a) { g = a; } int rec(int n) { return n ? n + rec(n - 1) : 0; } "

// P9.2, P9.4: whatever a part does, it does in the order from the left to the right.
func TestOrder(t *testing.T) {
	for _, r := range []row{
		{"return get(1) - get(2) * get(3);", []int64{20, 3, 4}, "get(1) = 20\nget(2) = 3\nget(3) = 4\nexited 8"},
		{"return g + (g = 5) + g;", nil, "exited 13"},
		{"return g * 100 + (g = 5) * 10 + (g = 7);", nil, "exited 357"},
		{"return g + f(g++) + g;", nil, "put(3)\nexited 11"},
		{"return g++ * 100 + g++ * 10 + g;", nil, "exited 345"},
		{"return ++g * 100 + --g * 10 + g--;", nil, "exited 433"},
		{"return add(g, g = 1) + add(g = 2, g) + add(g++, ++g);", nil, "exited 77"},
		{"return add(add(g, g++), add(g++, g));", nil, "exited 375"},
		{"int x = g; x += x++ + x; return x;", nil, "exited 11"},
		{"int x = 1; x = x++ + 5; return x;", nil, "exited 6"},
		{"int x = 1; int y = (x = 2) + x * 10; return y + (x += y);", nil, "exited 46"},
		{"int i = 0; ga[i] = i++ + 5; ga[i++] = i; return ga[0] * 10 + ga[1] + i * 100;", nil, "exited 252"},
		{"int i = 0; ga[i++] += ++i; ga[i] -= i--; return ga[0] * 100 - ga[2] * 10 + i;", nil, "exited 221"},
		{"int i = 1; int *p = ga; *p++ = i++; *p++ = i++; *p = i; return ga[0] * 100 + ga[1] * 10 + *p;", nil, "exited 123"},
		{"*at(1) = f(2); return ga[1];", nil, "put(1)\nput(2)\nexited 3"},
		{"*at(1) += f(2); return ga[1]++ + *at(1);", nil, "put(1)\nput(2)\nput(1)\nexited 7"},
		{"int *p = ga; *p = (p = ga + 1, 4); *p = 7; return ga[0] * 10 + ga[1];", nil, "exited 47"},
		{"int *p = ga; *p += (p = ga + 1, 4); *p += 7; return ga[0] * 10 + ga[1];", nil, "exited 47"},
		{"int (*p)(int) = f; return p(1) + p((p = get, 2));", []int64{9, 9}, "put(1)\nput(2)\nexited 5"},
		{"int (*p)(int) = f; return (put(5), p)(get(6));", []int64{0, 9}, "put(5)\nget(6) = 9\nput(9)\nexited 10"},
		{"gs.p = &gs; gs.n = 4; gs.c = 300; return gs.p->n++ + gs.p->c + gs.p->p->n;", nil, "exited 53"},
		{"gs.n = 1; struct s *p = &gs; p->n = (p = 0, 2); return gs.n;", nil, "exited 2"},
		{"struct s a; struct s b; a.p = &b; b.p = &a; a.n = 1; b.n = 2; struct s *p = &a; p->n += (p = p->p)->n * 10; return a.n + p->n;", nil, "exited 23"},
		{"char c = 100; int x = c += 100; int y = c++; return x * 1000 + y * 10 + c;", nil, "exited -56615"},
		{"char c; int x = c = 300; return x + c;", nil, "exited 88"},
		{"unsigned char c = 255; int x = ++c; short s = -1; unsigned short u = s--; return x + s + u;", nil, "exited 65533"},
		{"double d = getd(1.5); d *= d++ + getd(d); return (int) d;", []int64{2, 3}, "getd(0x3ff8000000000000) = 0x4000000000000000\ngetd(0x4008000000000000) = 0x4008000000000000\nexited 15"},
		{"long l = getl(1); l <<= getl(2) + 1; return (int) (l >> 2);", []int64{5, 3}, "getl(1L) = 5L\ngetl(2L) = 3L\nexited 20"},
		{"return (put(1), put(2), get(3)) + (put(4), 5);", nil, "put(1)\nput(2)\nget(3) = 0\nput(4)\nexited 5"},
	} {
		r.text = outside + "int main() { " + r.text + " }"
		r.check(t)
	}
}

// P9.2: of two ways one is gone, and what is asked of both is asked once.
func TestChoices(t *testing.T) {
	for _, r := range []row{
		{"return g ? get(1) : get(2);", []int64{7}, "get(1) = 7\nexited 7"},
		{"return z ? get(1) : get(2);", []int64{7}, "get(2) = 7\nexited 7"},
		{"return (g ? get(1) : get(2)) + (z ? get(3) : get(4) ? get(5) : get(6)) * 10;", []int64{7, 8, 2}, "get(1) = 7\nget(4) = 8\nget(5) = 2\nexited 27"},
		{"return get(1) ? get(2) ? 3 : 4 : get(5) ? 6 : 7;", []int64{0, 1}, "get(1) = 0\nget(5) = 1\nexited 6"},
		{"return (g == 3 ? g = 4 : (g = 5)) * 10 + g;", nil, "exited 44"},
		{"return g + (g ? g = 1 : 0) + g;", nil, "exited 5"},
		{"return *(g ? &g : &z) + *(z ? &g : &z);", nil, "exited 3"},
		{"*(get(1) ? &g : &z) += 4; return g * 10 + z;", []int64{0}, "get(1) = 0\nexited 34"},
		{"return (get(1) ? f : get)(5);", []int64{1}, "get(1) = 1\nput(5)\nexited 6"},
		{"z ? put(1) : put(2); g ? put(3) : nothing(4); z ? nothing(5) : nothing(6); return g;", nil, "put(2)\nput(3)\nexited 6"},
		{"g ? (void) (z = 5) : (void) f(1); return z;", nil, "exited 5"},
		{"g ? g++ : get(1); z ? g : get(2); return g;", []int64{8}, "get(2) = 8\nexited 4"},
		{"return (get(1) && get(2)) + (get(3) || get(4)) * 10;", []int64{5, 6, 0, 0}, "get(1) = 5\nget(2) = 6\nget(3) = 0\nget(4) = 0\nexited 1"},
		{"return (get(1) && get(2)) + (get(3) || get(4)) * 10;", []int64{0, 6}, "get(1) = 0\nget(3) = 6\nexited 10"},
		{"return (get(1) && get(2) && get(3)) + (get(4) || get(5) || get(6)) * 10;", []int64{1, 1, 1, 0, 0, 7}, "get(1) = 1\nget(2) = 1\nget(3) = 1\nget(4) = 0\nget(5) = 0\nget(6) = 7\nexited 11"},
		{"return (g && g) + (z || g) * 10 + (z && g) * 100 + (0.5 && &z) * 1000 + (0.0 || -0.0) * 10000;", nil, "exited 1011"},
		{"g && put; z || put; g && f(1); z && f(2); g || f(3); z || f(4); return 0;", nil, "put(1)\nput(4)\nexited 0"},
		{"if (get(1) && get(2)) put(3); else put(4); if (get(5) || get(6)) put(7); else put(8); return 0;", []int64{1, 0, 0, 0, 0}, "get(1) = 1\nget(2) = 0\nput(4)\nget(5) = 0\nget(6) = 0\nput(8)\nexited 0"},
		{"if (!get(1)) put(2); if (z = get(3)) put(z); return z;", []int64{0, 0, 6}, "get(1) = 0\nput(2)\nget(3) = 6\nput(6)\nexited 6"},
		{"if (!(get(1) && !get(2)) || get(3)) return 1; return 2;", []int64{1, 0, 0}, "get(1) = 1\nget(2) = 0\nget(3) = 0\nexited 2"},
		{"int x; return g ? g : x;", nil, "exited 3"},
		{"int x; z && x; g || x; return z && x ? x : 4;", nil, "exited 4"},
	} {
		r.text = outside + "int main() { " + r.text + " }"
		r.check(t)
	}
}

// P9.2: a test that does something is asked where it stood: by whatever way it is come to.
func TestLoops(t *testing.T) {
	for _, r := range []row{
		{"while (get(1)) put(2); return 0;", []int64{1, 0, 0}, "get(1) = 1\nput(2)\nget(1) = 0\nexited 0"},
		{"int i = 3; while (i--) put(i); return i;", nil, "put(2)\nput(1)\nput(0)\nexited -1"},
		{"int i = 0; while (i++ < 4) { if (i == 2) continue; if (i == 4) break; put(i); } return i;", nil, "put(1)\nput(3)\nexited 4"},
		{"int i = 0; do { if (i == 1) continue; put(i); } while (++i < 3); return i;", nil, "put(0)\nput(2)\nexited 3"},
		{"int i = 0; do { if (i == 1) break; put(i); } while (++i < 3); return i;", nil, "put(0)\nexited 1"},
		{"int i = 0; do put(i); while (i++ < 2 && get(i)); return i;", []int64{0, 1, 0, 0}, "put(0)\nget(1) = 1\nput(1)\nget(2) = 0\nexited 2"},
		{"do put(1); while (z); return 0;", nil, "put(1)\nexited 0"},
		{"int i; for (i = f(0); i < f(2); i += f(3)) { if (i == 5) continue; put(i * 100); } return i;", nil, "put(0)\nput(2)\nput(100)\nput(3)\nput(2)\nexited 5"},
		{"for (int i = 0; get(i); i++) { if (i == 1) continue; put(9); } return 0;", []int64{1, 0, 1, 1, 0}, "get(0) = 1\nput(9)\nget(1) = 1\nget(2) = 1\nput(9)\nget(3) = 0\nexited 0"},
		{"for (;;) { if (g-- == 0) break; put(g); } return g;", nil, "put(2)\nput(1)\nput(0)\nexited -1"},
		{"for (int i = 0; i++ < 2;) for (int j = 0; j++ < 2;) { if (j == i) continue; put(i * 10 + j); } return 0;", nil, "put(12)\nput(21)\nexited 0"},
		{"int i = 0; goto in; while (put(i), i < 3) { i = 9; in: i++; } return i;", nil, "put(1)\nput(10)\nexited 10"},
		{"int i = 0; goto in; do { i = 9; in: i++; } while (put(i), i < 3); return i;", nil, "put(1)\nput(10)\nexited 10"},
		{"int i = 0; goto in; for (i = 5; get(i); i += f(0)) { i += 9; in: i++; } return i;", []int64{0, 0}, "put(0)\nget(2) = 0\nexited 2"},
		{"again: while (g++ < 6) { if (g == 5) goto again; put(g); } return g;", nil, "put(4)\nput(6)\nexited 7"},
		{"while (get(1)) while (get(2)) { if (get(3)) goto out; } out: return z;", []int64{1, 0, 1, 1, 1}, "get(1) = 1\nget(2) = 0\nget(1) = 1\nget(2) = 1\nget(3) = 1\nexited 0"},
		{"switch (get(1)) { case 1: f(1); f(2); case 2: put(3); break; default: put(get(4)); } return 0;", []int64{1}, "get(1) = 1\nput(1)\nput(2)\nput(3)\nexited 0"},
		{"switch (get(1)) { case 1: f(1); f(2); case 2: put(3); break; default: put(get(4)); } return 0;", []int64{2}, "get(1) = 2\nput(3)\nexited 0"},
		{"switch (get(1)) { case 1: f(1); f(2); case 2: put(3); break; default: put(get(4)); } return 0;", []int64{7, 8}, "get(1) = 7\nget(4) = 8\nput(8)\nexited 0"},
		{"switch (getl(1) << 32) { case 0: put(1); case 4294967296: put(2); break; case 8589934592: put(3); } return 0;", []int64{1}, "getl(1L) = 1L\nput(2)\nexited 0"},
		{"switch (g++) { case 4: put(1); case 3: put(g); } return g;", nil, "put(4)\nexited 4"},
		{"switch (g) { put(1); f(2); case 4: put(3); } return g;", nil, "exited 3"},
		{"while (get(1)) switch (get(2)) { case 1: continue; case 2: break; default: return get(3); } return 9;", []int64{1, 1, 1, 2, 1, 3, 4}, "get(1) = 1\nget(2) = 1\nget(1) = 1\nget(2) = 2\nget(1) = 1\nget(2) = 3\nget(3) = 4\nexited 4"},
		{"do switch (get(1)) { case 1: put(5); continue; case 2: break; default: put(6); } while (get(2)); return 9;", []int64{1, 0, 1, 2, 1, 3, 0, 0}, "get(1) = 1\nput(5)\nget(2) = 1\nget(1) = 2\nget(2) = 1\nget(1) = 3\nput(6)\nget(2) = 0\nexited 9"},
		{"goto in; switch (get(1)) { case 1: put(2); in: f(3); default: put(4); } return 0;", nil, "put(3)\nput(4)\nexited 0"},
		{"return rec(20);", nil, "exited 210"},
		{"return rec(200);", nil, "running"},
		{"while (1) ;", nil, "running"},
		{"while (1) 5;", nil, "running"},
		{"a: goto a;", nil, "running"},
		{"do ; while (1 || get(1)); return 0;", nil, "running"},
	} {
		r.text = outside + "int main() { " + r.text + " }"
		r.check(t)
	}
}

// P9.2: what goes wrong goes wrong, behind what it has shown: also where nobody asks for its value.
func TestWrong(t *testing.T) {
	for _, r := range []row{
		{"int x; return x;", nil, "wrong"},
		{"int x; int y = x; x = y; return 0;", nil, "exited 0"},
		{"int x; x; x, 1; return 0;", nil, "exited 0"},
		{"int x; -x; put(1); return 0;", nil, "wrong"},
		{"int x; put(1); !x; put(2); return 0;", nil, "put(1)\nwrong"},
		{"int x; g && x; put(1); return 0;", nil, "wrong"},
		{"int x; z || x; put(1); return 0;", nil, "wrong"},
		{"int x; x && g; put(1); return 0;", nil, "wrong"},
		{"int x; x ? put(1) : put(2); return 0;", nil, "wrong"},
		{"int x; g ? -x : 0; put(1); return 0;", nil, "wrong"},
		{"int x; x++; put(1); return 0;", nil, "wrong"},
		{"int x; int y; x = 1; x += y; put(1); return 0;", nil, "wrong"},
		{"1 / z; put(1); return 0;", nil, "wrong"},
		{"1 / z, 2; put(1); return 0;", nil, "wrong"},
		{"(void) (1 / z); put(1); return 0;", nil, "wrong"},
		{"1 / z + f(1); return 0;", nil, "wrong"},
		{"f(1) + 1 / z; return 0;", nil, "put(1)\nwrong"},
		{"f(1) + 1 / z + f(2); return 0;", nil, "put(1)\nwrong"},
		{"add(1 / z, f(1)); return 0;", nil, "wrong"},
		{"*(int *) 0 = f(1); return 0;", nil, "put(1)\nwrong"},
		{"*(int *) 0 += f(1); return 0;", nil, "put(1)\nwrong"},
		{"int *p = 0; *p; put(1); return 0;", nil, "wrong"},
		{"int *p; p[f(1)]; put(1); return 0;", nil, "put(1)\nwrong"},
		{"int *p = 0; *p; for (;;) ;", nil, "wrong"},
		{"int *p = ga + 5; *p++; put(1); *p; return 0;", nil, "wrong"},
		{"int *p = ga; p[4] = f(1); return 0;", nil, "put(1)\nwrong"},
		{"ga[4]++; put(1); return 0;", nil, "wrong"},
		{"*\"s\" = f(1); return 0;", nil, "put(1)\nwrong"},
		{"int *p; { int x = f(1); p = &x; } return *p;", nil, "put(1)\nexited 2"},
		{"int (*p)(int) = 0; p(f(1)); return 0;", nil, "put(1)\nwrong"},
		{"int (*p)(long) = (int (*)(long)) f; p(f(1)); return 0;", nil, "put(1)\nwrong"},
		{"int x; while (x) ; return 0;", nil, "wrong"},
		{"int x; while (put(1), x) ; return 0;", nil, "put(1)\nwrong"},
		{"int x; do put(1); while (put(2), x); return 0;", nil, "put(1)\nput(2)\nwrong"},
		{"int x; switch (put(1), x) { } return 0;", nil, "put(1)\nwrong"},
		{"put(1); return 1 / get(2);", nil, "put(1)\nget(2) = 0\nwrong"},
		{"put(1);", nil, "put(1)\nwrong"},
	} {
		r.text = outside + "int main() { " + r.text + " }"
		r.check(t)
	}
	for _, text := range []string{"", "int main;", "int f() { return 1; }"} {
		row{text: text, want: "wrong"}.check(t)
	}
}

// P9.2: the document's examples (of DOC.md and its chapters).
func TestExamples(t *testing.T) {
	for _, r := range []row{
		{"int main() { return 3; }", nil, "exited 3"},
		{"extern int get(int a); int main() { return get(1) - get(2); }", []int64{10, 3}, "get(1) = 10\nget(2) = 3\nexited 7"},
		{"extern int get(int a); int main() { int s = 0; for (int i = 0; i < 2; i++) s += get(i); return s; }", []int64{20, 22}, "get(0) = 20\nget(1) = 22\nexited 42"},
		{"extern int get(int a); int sq(int a) { return a * a; } int main() { int s = 0; for (int i = 0; i < 3; i++) s += sq(get(i)); return s; }", []int64{1, 2, 3}, "get(0) = 1\nget(1) = 2\nget(2) = 3\nexited 14"},
		{"int main() { char c = 1; c += 2; return c; }", nil, "exited 3"},
		{"int a[3]; int f(long i) { return a[i]; } int main() { return f(2); }", nil, "exited 0"},
	} {
		r.check(t)
	}
}
