package passes

import (
	"math"
	"reflect"
	"slices"
	"testing"

	"alembic/api"
	"alembic/core"
	"alembic/graph"
	"alembic/layout"
	"alembic/locals"
	"alembic/mach"
	"alembic/rtl"
	"alembic/trace"
)

// row is a program, a script, and what is shown by its run: the events and the end.
type row struct {
	text   string
	script []int64
	want   string
}

// check asks for what a row's program shows in Light, with fewer locals, in one frame, as Sel, as RTL, and as what the passes over RTL make of that, and for all promises.
func (r row) check(t *testing.T) {
	t.Helper()
	r.checkUnit(t, lightOf(t, r.text))
}

func (r row) checkUnit(t *testing.T, u api.Unit) {
	t.Helper()
	fuels := []int{0, 1, 2, 3, 5, 8, 13, 50, api.MaxFuel}
	fewer := fewerOf(t, r.text, u)
	compareSteps(t, r.text, u, fewer, r.script, fuels...)
	compare(t, r.text, u, fewer, r.script, api.MaxFuel, fuels...)
	for _, v := range []api.Unit{u, fewer} {
		minor := minorOf(t, r.text, v)
		compare(t, r.text, v, minor, r.script, api.MaxFuel, fuels...)
		for _, picks := range [][]int{nil, {1, 1, 1, 1, 1, 1, 1, 1}} {
			o := core.Run(minor, picks, r.script, api.MaxFuel)
			if got := trace.Text(o); got != r.want+"\n" {
				t.Errorf("%s\n%s\nnot\n%s", r.text, got, r.want)
			}
		}
		r.checkMinor(t, minor)
	}
}

// checkMinor asks for what a row's program shows as the Sel of its Minor, and as RTL, where calls may be deeper.
func (r row) checkMinor(t *testing.T, minor api.Unit) {
	t.Helper()
	for _, target := range targets {
		sel := selOf(t, r.text, target, minor)
		compareEnds(t, r.text, minor, sel, r.script, api.MaxFuel, 0, 1, 2, 3, 5, 8, 13, 50, api.MaxFuel)
		if got := trace.Text(core.Run(sel, nil, r.script, api.MaxFuel)); got != r.want+"\n" {
			t.Errorf("%s\ntarget %d: %s\nnot\n%s", r.text, target, got, r.want)
		}
		g := graphOf(t, r.text, sel)
		compareGraphEnds(t, r.text, sel, g, r.script, api.MaxFuel, 0, 1, 2, 3, 5, 8, 13, 50, api.MaxFuel)
		if got := trace.Text(rtl.Run(g, r.script, api.MaxFuel)); got != r.want+"\n" && r.want != "running" {
			t.Errorf("%s\nRTL: %s\nnot\n%s", r.text, got, r.want)
		}
		compareShorter(t, r.text, g, r.script, 0, 1, 5, 50, api.MaxFuel)
	}
}

const outside = "extern int get(int a); extern void put(int a); extern double getd(double a); int g = 3; int z; struct s { char c; int n; struct s *p; }; union u { double d; long l; char c[8]; }; int f(int a) { put(a); return a + 1; } void set(int *p, int n) { *p = n; } int at(int *p) { return *p; } int rec(int n) { int x = n; int *p = &x; return n ? *p + rec(n - 1) : 0; } "

// P10.2, P10.4, P11.3: what is done with locals, in whatever place they are.
func TestLocals(t *testing.T) {
	for _, r := range []row{
		{"int x = 1; int y = x + 2; x = y * 3; return x - y;", nil, "exited 6"},
		{"int x = 1; int *p = &x; *p += 4; set(p, *p * 2); return x;", nil, "exited 10"},
		{"int x = 1; int y = 2; int *p = &x; int *q = &y; int h = *p; *p = *q; *q = h; return x * 10 + y;", nil, "exited 21"},
		{"int x = 1; int *p = &x; int **q = &p; int y = 5; *q = &y; return *p + x;", nil, "exited 6"},
		{"int x; put(5); set(&x, get(1)); return at(&x) + x;", []int64{0, 4}, "put(5)\nget(1) = 4\nexited 8"},
		{"char c = 200; unsigned char d = 200; short s = 70000; unsigned short u = -1; return c + d + s + u;", nil, "exited 70143"},
		{"long x = 4294967296; unsigned y = -1; return (int) (x / (y + 1l));", nil, "exited 1"},
		{"double d = getd(0.5); double e = d / 2; return (int) (d * e);", []int64{6}, "getd(0x3fe0000000000000) = 0x4018000000000000\nexited 18"},
		{"double d = -0.0; return 1 / d < 0;", nil, "exited 1"},
		{"union u x; x.d = -2.5; return (int) (x.l >> 60) + x.c[7];", nil, "exited -68"},
		{"double d = 1; return (int) (*(long *) &d >> 52);", nil, "exited 1023"},
		{"int x = 258; char *p = (char *) &x; p[2] = 1; return x - *p * p[1];", nil, "exited 65792"},
		{"struct s a; struct s b; a.c = 1; a.n = 2; a.p = &b; b.p = &a; a.p->n = 3; a.p->p->c = 4; return a.c * 100 + a.n * 10 + b.n;", nil, "exited 423"},
		{"int a[4]; for (int i = 0; i < 4; i++) a[i] = i * i; int *p = a; int s = 0; while (p < a + 4) s += *p++; return s;", nil, "exited 14"},
		{"char a = 1; char b[9]; *(long *) b = 258; b[8] = 7; return a * 1000 + b[0] * 100 + b[1] * 10 + b[8];", nil, "exited 1217"},
		{"char a = 1; char b[5]; *(int *) b = 513; char c; char d[3]; *(short *) d = 3; return a + b[0] + b[1] + *d;", nil, "exited 7"},
		{"int i = 5; for (int i = 0; i < 2; i++) { int i = 9; put(i); } return i;", nil, "put(9)\nput(9)\nexited 5"},
		{"for (int i = 0; i < 2; i++) { int x; if (i) put(x); x = 7; } return 0;", nil, "put(7)\nexited 0"},
		{"int n = 0; again: ; int x; if (n++) put(x); x = n; if (n < 3) goto again; return x;", nil, "put(1)\nput(2)\nexited 3"},
		{"int (*p)(int) = f; int (*q[2])(int); q[1] = p; return p(1) + q[1](2);", nil, "put(1)\nput(2)\nexited 5"},
		{"return rec(20);", nil, "exited 210"},
		{"return rec(200);", nil, "running"},
		{"switch (get(0)) { int x; case 1: x = 3; case 2: put(x); break; default: x = 4; put(x); } return 0;", []int64{1}, "get(0) = 1\nput(3)\nexited 0"},
		{"do { int x = get(1); long l = x; if (l) continue; break; } while (1); return 2;", []int64{1, 5, 0}, "get(1) = 1\nget(1) = 5\nget(1) = 0\nexited 2"},
		{"int x = 1; while (x) x++; return x;", nil, "running"},
	} {
		r.text = outside + "int main() { " + r.text + " }"
		r.check(t)
	}
}

// P10.2, P11.3: addresses of unlike locals are unlike, those of one are ordered.
func TestAddresses(t *testing.T) {
	for _, r := range []row{
		{"int a; int b; char c; return (&a == &b) + (&a != &b) * 10 + (&a == &a) * 100 + ((void *) &c == (void *) &a) * 1000;", nil, "exited 110"},
		{"int a[3]; int b; return (a == &b) + (a + 1 == &a[1]) * 10 + (a + 3 > a + 2) * 100 + (a + 3 == a + 3) * 1000;", nil, "exited 1110"},
		{"int a; int *p = &a; return (p == 0) + !p * 10 + (p != 0) * 100 + (p + 1 - p) * 1000;", nil, "exited 1100"},
		{"int a; int *p = &a - 5; return (p < p) + (p + 5 == &a) * 10;", nil, "wrong"},
		{"int a; int *p = &a - 5; return (p + 5 == &a) * 10 + (&a - p);", nil, "exited 15"},
		{"struct s a[3]; char *p = (char *) a; return ((char *) &a[2].n - p) + (a[1].c = 5);", nil, "exited 41"},
		{"int a; g = &a == &g; int b; return g * 10 + (&b == &z);", nil, "exited 0"},
		{"int a = 1; int *p = &a; if (get(0)) p = &z; return *p * 10 + (p == &a);", []int64{0}, "get(0) = 0\nexited 11"},
	} {
		r.text = outside + "int main() { " + r.text + " }"
		r.check(t)
	}
	row{"int *up; int deep(int n) { int x = n; int *mine = up; up = &x; int s = n ? deep(n - 1) : up == mine; if (mine) s += *mine * (mine != &x); return s; } int main() { return deep(5); }", nil, "exited 15"}.check(t)
}

// P10.2, P10.4, P11.3: what goes wrong behind what it has shown.
func TestWrong(t *testing.T) {
	for _, r := range []row{
		{"int x; return x;", nil, "wrong"},
		{"int x; int y = x; x = y; put(1); return -x;", nil, "put(1)\nwrong"},
		{"int x; int *p = &x; put(2); return *p;", nil, "put(2)\nwrong"},
		{"int *p; put(3); return *p;", nil, "put(3)\nwrong"},
		{"char c; put(4); put(c); return 0;", nil, "put(4)\nwrong"},
		{"long x; x ? put(1) : put(2); return 0;", nil, "wrong"},
		{"double d; put(1); return d;", nil, "put(1)\nwrong"},
		{"int x = 1; put(1 / (x - 1)); return 0;", nil, "wrong"},
		{"char a = 1; long b; long *p = (long *) (&a + 1); put(1); return *p;", nil, "put(1)\nwrong"},
	} {
		r.text = outside + "int main() { " + r.text + " }"
		r.check(t)
	}
	row{"int f() { int x = 1; } int main() { return f(); }", nil, "wrong"}.check(t)
	row{"", nil, "wrong"}.check(t)
	// beyond a local: what is shown ahead of that is the same
	for _, text := range []string{"int a[2]; int b = 5; put(1); a[2] = 7; put(b); return a[2];", "char c; char d; put(1); *(&c + 1) = 1; put(2); return 0;", "int a; int b; put(1); put(&a + 1 == &b); put(2); return 0;", "int x; { int y; put(1); put(&x < &y); } return 0;"} {
		u := lightOf(t, outside+"int main() { "+text+" }")
		fewer := fewerOf(t, text, u)
		minor := minorOf(t, text, fewer)
		a := compare(t, text, u, minor, nil, api.MaxFuel, 0, 5, api.MaxFuel)
		b := core.Run(minor, nil, nil, api.MaxFuel)
		if a.Status != api.Wrong || len(a.Trace) != 1 || len(b.Trace) == 0 {
			t.Errorf("%s: %s, then %s", text, shown(a), shown(b))
		}
	}
}

// P10.2, P11.3: the document's examples, and programs that do more.
func TestPrograms(t *testing.T) {
	for _, r := range []row{
		{"int main() { return 3; }", nil, "exited 3"},
		{"extern int get(int a); int main() { return get(1) - get(2); }", []int64{10, 3}, "get(1) = 10\nget(2) = 3\nexited 7"},
		{"extern int get(int a); int main() { int s = 0; for (int i = 0; i < 2; i++) s += get(i); return s; }", []int64{20, 22}, "get(0) = 20\nget(1) = 22\nexited 42"},
		{"extern int get(int a); int sq(int a) { return a * a; } int main() { int s = 0; for (int i = 0; i < 3; i++) s += sq(get(i)); return s; }", []int64{1, 2, 3}, "get(0) = 1\nget(1) = 2\nget(2) = 3\nexited 14"},
		{"int main() { char c = 1; c += 2; return c; }", nil, "exited 3"},
		{"int f(int a) { int x = a; return x + a; } int main() { return f(4); }", nil, "exited 8"},
		{"int f(int a) { int *p = &a; return *p; } int main() { return f(4); }", nil, "exited 4"},
		{"void sort(int *p, int n) { if (n < 2) return; int x = p[n / 2]; int i = 0; int j = n - 1; for (;;) { while (p[i] < x) i++; while (p[j] > x) j--; if (i >= j) break; int y = p[i]; p[i++] = p[j]; p[j--] = y; } sort(p, i); sort(p + i, n - i); } int main() { int a[9]; for (int i = 0; i < 9; i++) a[i] = i * 5 % 9 + 1; sort(a, 9); int s = 0; for (int i = 0; i < 9; i++) s = s * 10 + a[i]; return s; }", nil, "exited 123456789"},
		{"int main() { char sieve[100]; for (int i = 0; i < 100; i++) sieve[i] = 0; int n = 0; for (int i = 2; i < 100; i++) { if (sieve[i]) continue; n++; for (int j = i; (j += i) < 100;) sieve[j] = 1; } return n; }", nil, "exited 25"},
		{"int many(char a, unsigned char b, short c, unsigned short d, int e, unsigned f, long g, double h, int *p) { int *q = &e; *q += a + b + c; *p = d + (int) h; return e + (int) (f + g); } int main() { int x; int y = many(300, 300, 70000, -1, 5, 6, 7, 8.9, &x); return x * 1000 + y % 1000; }", nil, "exited 65543570"},
		{"double sum(double *p, int n) { double s = 0; for (double *q = p + n; p < q;) s += *p++; return s; } int main() { double a[4]; for (int i = 0; i < 4; i++) a[i] = i + 0.5; return (int) sum(a, 4); }", nil, "exited 8"},
		{"int a(char *p) { char x[1048576]; char y[1048576]; x[0] = *p; y[1048575] = x[0] + 1; x[1048575] = 3; char *q = &y[0]; return q[1048575] + x[1048575] + x[0]; } int main() { char c = 5; return a(&c); }", nil, "exited 14"},
	} {
		r.check(t)
	}
}

// P11.3: a parameter is stored by its local's chunk, whatever was stored ahead of it.
func TestParameters(t *testing.T) {
	f := api.Func{Name: "f", Sig: sigOf("iiii"), Params: []int{2, -1, 0}, Temps: 1, Locals: []api.Slot{slotOf(api.C8S), slotOf(api.C32), slotOf(api.C16U)}}
	f.Body = []api.Stmt{put(api.C32, local(1), op2(api.OpMul, load(api.C8S, local(0)), i32(1000000))), ret(op2(api.OpAdd, load(api.C32, local(1)), op2(api.OpAdd, load(api.C16U, local(2)), temp(0))))}
	main := api.Func{Name: "main", Sig: sigOf("i"), Temps: 1, Body: []api.Stmt{invoke(0, "f", "iiii", i32(65543), i32(100000), i32(-254)), ret(temp(0))}}
	row{"f", nil, "exited 2100007"}.checkUnit(t, unitWith(main, f))
	// what isn't given is undefined, whatever a temporary held in another call
	f.Body = append([]api.Stmt{api.If{X: temp(0), Then: []api.Stmt{put(api.C32, local(1), i32(1)), invoke(-1, "f", "iiii", i32(0), i32(0), i32(0))}}.Stmt()}, invoke(-1, "show", "iv", load(api.C32, local(1))), ret(i32(0)))
	row{"f within f", nil, "wrong"}.checkUnit(t, unitWith(main, f))
}

// P10.2, P10.4, P11.3: labels are gone to from anywhere, and what a Put became takes a step as it did.
func TestBodies(t *testing.T) {
	x := load(api.C32, local(0))
	count := put(api.C32, local(0), op2(api.OpAdd, x, i32(1)))
	within := api.Loop{Test: op2(api.OpLt, x, i32(5)), Body: []api.Stmt{api.Label{Name: "in"}.Stmt(), count, api.If{X: op2(api.OpEq, x, i32(3)), Then: []api.Stmt{api.Break{}.Stmt()}, Else: []api.Stmt{api.Continue{}.Stmt()}}.Stmt(), ret(i32(99))}, Step: []api.Stmt{invoke(-1, "show", "iv", x)}}
	choice := api.Switch{X: x, Items: []api.Item{{Case: true, Value: 3}, {S: count}, {S: api.Block{List: []api.Stmt{count, api.Break{}.Stmt()}}.Stmt()}, {Default: true}, {S: ret(i32(98))}}}
	main := api.Func{Name: "main", Sig: sigOf("i"), Locals: []api.Slot{slotOf(api.C32)}, Body: []api.Stmt{put(api.C32, local(0), i32(0)), api.Goto{Name: "in"}.Stmt(), within.Stmt(), choice.Stmt(), ret(x)}}
	row{"labels", nil, "show(1)\nshow(2)\nexited 5"}.checkUnit(t, unitWith(main))
}

// Nothing that is handed in is changed, nor its spare room, and nothing is kept from call to call.
func TestArgumentsStay(t *testing.T) {
	const sample = outside + `double d = 1.5; char *text = "text"; int x[2] = {1, -2}; int *px = &z; int (*fp)(int) = f;
void all(int a, char *b, long l, char c) { int n = a; int *p = &a; for (int j = 0; j < 3; j++) { set(p, *b); if (j) continue; else break; }
 do n += x[a & 1]; while (n++ < 2); switch (n) { case 1: goto end; case -1: default: n--; } switch (l) { case 1: put(1); } end: n ? put(2) : put(c); return; }
int main() { all(1, text, 1, 300); while (z++ < 2) { d *= z; fp(get(z)); } return -x[0] + (int) d; }`
	_, other := grownUnit(5)
	for _, u := range []api.Unit{lightOf(t, sample), other} {
		checkStays(t, u, locals.Unit)
		checkStays(t, u, layout.Unit)
		checkStays(t, chosen(t, api.X64, layout.Unit(u)), func(u api.Unit) api.Graph { return graph.Renumber(graph.Unit(u).Funcs[0]) })
		for _, target := range targets {
			checkStays(t, layout.Unit(u), chooseFor(t, target))
			checkStays(t, layout.Unit(locals.Unit(u)), chooseFor(t, target))
			checkStays(t, chosen(t, target, layout.Unit(u)), graph.Unit)
		}
		given := roomy(reflect.ValueOf(u))
		for _, f := range given.Interface().(api.Unit).Funcs {
			locals.Kept(f)
			layout.Places(f.Locals)
		}
		if !isRoomy(given) || !reflect.DeepEqual(given.Interface(), roomy(reflect.ValueOf(u)).Interface()) {
			t.Error("the unit was changed")
		}
	}
}

func chooseFor(t testing.TB, target int) func(api.Unit) api.Unit {
	return func(u api.Unit) api.Unit { return chosen(t, target, u) }
}

// checkStays asks whether a pass leaves a unit as it was, and answers the same again, in memory of its own.
func checkStays[T any](t *testing.T, u api.Unit, pass func(api.Unit) T) {
	t.Helper()
	given := roomy(reflect.ValueOf(u))
	first := pass(given.Interface().(api.Unit))
	if !isRoomy(given) || !reflect.DeepEqual(given.Interface(), roomy(reflect.ValueOf(u)).Interface()) {
		t.Error("the unit was changed")
	}
	if sharing(given.Interface().(api.Unit), first) {
		t.Error("memory is shared")
	}
	pass(lightOf(t, "int main() { return 1; }"))
	if again := pass(given.Interface().(api.Unit)); !reflect.DeepEqual(first, again) || !reflect.DeepEqual(first, pass(u)) {
		t.Errorf("%+v\nnot\n%+v", again, first)
	}
}

// Parts that are nested as deep as they may be.
func TestDeepParts(t *testing.T) {
	const deep = 1<<16 - 50
	x := load(api.C32, local(0))
	for what, round := range map[string]func(api.Expr) api.Expr{
		"Load":  func(e api.Expr) api.Expr { return load(api.C32, e) },
		"Op1":   func(e api.Expr) api.Expr { return op1(api.OpNeg, e) },
		"left":  func(e api.Expr) api.Expr { return op2(api.OpAdd, e, x) },
		"right": func(e api.Expr) api.Expr { return op2(api.OpAdd, x, e) },
	} {
		e := local(1)
		for range deep {
			e = round(e)
		}
		u := unitWith(api.Func{Name: "main", Sig: sigOf("i"), Locals: []api.Slot{slotOf(api.C32), slotOf(api.C64)}, Body: []api.Stmt{ret(e)}})
		minor := layout.Unit(locals.Unit(u))
		if f := minor.Funcs[0]; f.Frame != 8 || len(f.Body) != 1 || !slices.Equal(locals.Kept(u.Funcs[0]), []bool{false, true}) {
			t.Errorf("%s: %d bytes", what, f.Frame)
		}
		for _, target := range targets {
			sel := chosen(t, target, minor)
			if f := sel.Funcs[0]; f.Frame != 8 || len(f.Body) != 1 {
				t.Errorf("%s: %d bytes", what, f.Frame)
			}
			if g := graph.Unit(sel); !rtl.Right(g) || len(g.Funcs[0].Code) < deep {
				t.Errorf("%s: %d instructions", what, len(g.Funcs[0].Code))
			}
		}
	}
	nested := func(deep int) api.Unit {
		s := put(api.C32, local(0), i32(6))
		for n := range deep {
			switch list := []api.Stmt{s}; n % 4 {
			case 0:
				s = api.Block{List: list}.Stmt()
			case 1:
				s = api.If{X: i32(1), Then: list}.Stmt()
			case 2:
				s = api.Loop{After: true, Body: list, Test: i32(0)}.Stmt()
			case 3:
				s = api.Switch{X: i32(3), Items: []api.Item{{Default: true}, {S: s}}}.Stmt()
			}
		}
		return unitWith(api.Func{Name: "main", Sig: sigOf("i"), Locals: []api.Slot{slotOf(api.C32)}, Body: []api.Stmt{s, ret(x)}})
	}
	u := nested(deep)
	for _, pass := range []func(api.Unit) api.Unit{locals.Unit, layout.Unit} {
		if a, b := core.Run(u, nil, nil, api.MaxFuel), core.Run(pass(u), nil, nil, api.MaxFuel); a.Status != api.Exited || a.Code != 6 || !sameOutcome(a, b) {
			t.Errorf("%s, not %s", shown(b), shown(a))
		}
	}
	for _, target := range targets {
		// the deepest one takes more steps as Sel than there is fuel
		if o := core.Run(chosen(t, target, layout.Unit(u)), nil, nil, api.MaxFuel); o.Status != api.Running {
			t.Errorf("target %d: %s", target, shown(o))
		}
		sel := chosen(t, target, layout.Unit(nested(deep/2)))
		if o := core.Run(sel, nil, nil, api.MaxFuel); o.Status != api.Exited || o.Code != 6 {
			t.Errorf("target %d: %s", target, shown(o))
		}
		if g := graph.Unit(sel); !rtl.Right(g) {
			t.Errorf("target %d: it isn't right", target)
		}
		if o := rtl.Run(graph.Unit(chosen(t, target, layout.Unit(nested(deep/9)))), nil, api.MaxFuel); o.Status != api.Exited || o.Code != 6 {
			t.Errorf("target %d: %s", target, shown(o))
		}
	}
}

// Addresses with as many numbers added to one another as parts may be nested.
func TestDeepAddresses(t *testing.T) {
	at := global("gi")
	for n := range 1<<16 - 50 {
		at = behind(at, int64(n%2*2-1))
	}
	u := unitWith(api.Func{Name: "main", Sig: sigOf("i"), Body: []api.Stmt{put(api.C32, behind(at, 4), i32(5)), ret(load(api.C32, at))}})
	u.Vars = []api.Var{{Name: "gi", Size: 8, Align: 4, Init: []api.Datum{{Chunk: api.C32, V: mach.IntOf(3)}}}}
	for _, target := range targets {
		sel := selOf(t, "deep", target, u)
		if got := bodyText(sel.Funcs[0].Body); got != "put (c32 @gi +4) 5; return (c32 @gi)" {
			t.Errorf("target %d: %.200s", target, got)
		}
		if o := core.Run(sel, nil, nil, api.MaxFuel); o.Status != api.Exited || o.Code != 3 {
			t.Errorf("target %d: %s", target, shown(o))
		}
	}
	compareEnds(t, "deep", u, chosen(t, api.RV64, u), nil, api.MaxFuel, api.MaxFuel)
}

// Units that aren't right are answered without a panic; what is none stays so.
func TestOddUnits(t *testing.T) {
	none := api.Expr{}
	for _, pass := range []func(api.Unit) api.Unit{locals.Unit, layout.Unit} {
		if u := pass(api.Unit{}); !reflect.ValueOf(u).IsZero() {
			t.Errorf("%+v", u)
		}
		stmts := []api.Stmt{
			{}, {Kind: 99}, api.Do{X: none}.Stmt(), ret(none), set(-5, none), put(99, none, none), api.Invoke{}.Stmt(), api.If{}.Stmt(), api.Loop{After: true}.Stmt(), api.Switch{Items: []api.Item{{}}}.Stmt(), api.Block{}.Stmt(),
			{Kind: api.KPut}, {Kind: api.KInvoke}, {Kind: api.KLoop}, put(api.C32, local(-1), local(7)), set(0, load(api.C32, local(-1))), set(0, load(api.C32, local(9))), set(0, local(-9)),
		}
		for kind := range api.KCall + 3 {
			bare := api.Expr{Kind: kind}
			stmts = append(stmts, set(0, bare), ret(op2(api.OpAdd, bare, load(api.C32, bare))), put(api.C32, bare, bare), api.Switch{X: bare}.Stmt())
		}
		for i, s := range stmts {
			for _, params := range [][]int{nil, {0, 0}, {3, -7, 1 << 62, -1 << 63}} {
				u := unitWith(api.Func{Name: "main", Sig: sigOf("i"), Params: params, Locals: []api.Slot{slotOf(api.C32)}, Body: []api.Stmt{s, s}})
				v := pass(u)
				if len(v.Funcs) != 1 || v.Funcs[0].Name != "main" || len(v.Funcs[0].Params) != len(params) {
					t.Errorf("%d: %+v", i, v)
				}
				if a, b := core.Run(u, nil, nil, 10), core.Run(v, nil, nil, 10); params == nil && !sameOutcome(a, b) {
					t.Errorf("%d: %s, not %s", i, shown(b), shown(a))
				}
			}
		}
	}
	if kept := locals.Kept(api.Func{}); len(kept) != 0 {
		t.Error(kept)
	}
}

// Units that aren't right Minor are answered without a panic.
func TestOddMinor(t *testing.T) {
	none := api.Expr{}
	far := api.OpI{Op: api.OpAdd + api.OfLong, X: temp(0), N: math.MaxInt64}.Expr()
	stmts := []api.Stmt{
		{}, {Kind: 99}, {Kind: api.KPut}, {Kind: api.KSwitch}, {Kind: api.KLoop}, api.Break{}.Stmt(), api.Continue{}.Stmt(), api.Do{X: local(3)}.Stmt(), api.Label{}.Stmt(), api.Goto{Name: "none"}.Stmt(),
		api.Switch{X: none, Items: []api.Item{{}, {Case: true, Default: true, Value: 1 << 63}, {Case: true}}}.Stmt(), api.Put{Chunk: 99, Addr: far, Off: math.MaxInt64, X: far}.Stmt(),
		set(-3, api.Load{Chunk: -1, Addr: behind(far, math.MinInt64), Off: math.MinInt64}.Expr()), set(0, op2(-5, i32(1), i64(2))), set(0, op2(api.OpShl+api.OfLong, i32(1), i64(2))), set(0, op2(api.OpSub, i64(1), i64(2))), set(0, op2(math.MinInt64, api.Num{}.Expr(), api.Num{V: api.Value{Kind: 77}}.Expr())), set(0, op2(api.OpSub+api.OfLong, none, api.Num{}.Expr())),
	}
	for kind := range api.KCall + 3 {
		bare := api.Expr{Kind: kind}
		for _, op := range []int{api.OpAdd, api.OpSub, api.OpShl, 0, 999} {
			stmts = append(stmts, set(0, op2(op, bare, bare)), put(api.C32, behind(bare, 8), op2(op, bare, i32(5))), api.Switch{X: bare, Long: true, Items: []api.Item{{S: set(0, bare)}}}.Stmt())
		}
	}
	for i, s := range stmts {
		for _, target := range targets {
			u := unitWith(api.Func{Name: "main", Params: []int{3, -7, 1 << 62, -1 << 63}, Temps: -4, Frame: -8, Body: []api.Stmt{s, s}})
			if v := chosen(t, target, u); len(v.Funcs) != 1 || v.Funcs[0].Name != "main" || len(v.Funcs[0].Params) != 4 {
				t.Errorf("%d: %+v", i, v)
			}
		}
	}
}
