package simpl_test

import (
	"reflect"
	"strings"
	"testing"

	"alembic/api"
	"alembic/core"
	"alembic/simpl"
	"alembic/trace"
)

// sample is a text with all that a unit may hold.
const sample = outside + `double d = 1.5; char *text = "text"; int x[2] = {1, -2}; int *px = &z; int (*fp)(int) = f;
void all(int a, char *b, long l) { int n = a; for (int j = 0; j < 3; j++) { add(j, *b); if (j) continue; else break; }
 do n += x[a & 1]; while (n++ < 2); switch (n) { case 1: goto end; case -1: default: n--; } switch (l) { case 1: put(1); } end: n ? put(2) : nothing(3); gs.p = a && n || !b ? 0 : gs.p; return; }
int main() { all(1, text, 1); while (z++ < 2) { d *= z; fp(get(z)); } return -x[0] + (int) d; }`

// roomy is a copy of what is given, in which each list has room to spare.
func roomy(v reflect.Value) reflect.Value {
	made := reflect.New(v.Type()).Elem()
	switch v.Kind() {
	case reflect.Slice:
		if v.IsNil() {
			break
		}
		made.Set(reflect.MakeSlice(v.Type(), v.Len(), v.Len()+2))
		for i := range v.Len() {
			made.Index(i).Set(roomy(v.Index(i)))
		}
	case reflect.Struct:
		for i := range v.NumField() {
			made.Field(i).Set(roomy(v.Field(i)))
		}
	default:
		made.Set(v)
	}
	return made
}

// isRoomy tells whether all room to spare in lists is empty yet.
func isRoomy(v reflect.Value) bool {
	switch v.Kind() {
	case reflect.Slice:
		for i := range v.Cap() {
			if e := v.Slice(0, v.Cap()).Index(i); i >= v.Len() && !e.IsZero() || i < v.Len() && !isRoomy(e) {
				return false
			}
		}
	case reflect.Struct:
		for i := range v.NumField() {
			if !isRoomy(v.Field(i)) {
				return false
			}
		}
	}
	return true
}

// P9.3: nothing that is handed in is changed, nor its spare room, and nothing is kept from call to call.
func TestArgumentsStay(t *testing.T) {
	u := unitOf(t, sample)
	given := roomy(reflect.ValueOf(u))
	first := lightOf(t, "sample", given.Interface().(api.Unit))
	if !isRoomy(given) || !reflect.DeepEqual(given.Interface(), roomy(reflect.ValueOf(u)).Interface()) {
		t.Error("the unit was changed")
	}
	g, _ := grownUnit(5)
	simpl.Unit(g.unit())
	if again := simpl.Unit(given.Interface().(api.Unit)); !reflect.DeepEqual(first, again) || !reflect.DeepEqual(first, simpl.Unit(u)) {
		t.Errorf("%+v\nnot\n%+v", again, first)
	}
}

// P9.2: programs that do more.
func TestPrograms(t *testing.T) {
	for _, r := range []row{
		{"int a[9] = {5, 2, 8, 1, 9, 3, 7, 4, 6}; void sort(int *p, int n) { if (n < 2) return; int x = p[n / 2]; int i = 0; int j = n - 1; for (;;) { while (p[i] < x) i++; while (p[j] > x) j--; if (i >= j) break; int y = p[i]; p[i++] = p[j]; p[j--] = y; } sort(p, i); sort(p + i, n - i); } int main() { sort(a, 9); int s = 0; for (int i = 0; i < 9; i++) s = s * 10 + a[i]; return s; }", nil, "exited 123456789"},
		{"char sieve[100]; int main() { int n = 0; for (int i = 2; i < 100; i++) { if (sieve[i]) continue; n++; for (int j = i; (j += i) < 100;) sieve[j] = 1; } return n; }", nil, "exited 25"},
		{"unsigned long hash(char *s) { unsigned long h = 5381; while (*s) h = (h << 5) + h + *s++; return h; } int main() { return (int) (hash(\"alembic\") % 1000007); }", nil, "exited 275108"},
		{"struct node { int n; struct node *next; }; struct node pool[5]; int main() { struct node *list = 0; for (int i = 0; i < 5; i++) { struct node *p = &pool[i]; p->n = i; p->next = list; list = p; } int s = 0; for (; list && (s = s * 10 + list->n, 1); list = list->next) ; return s; }", nil, "exited 43210"},
		{"double m[2][2]; double n[2][2]; void times() { double r[2][2]; for (int i = 0; i < 2; i++) for (int j = 0; j < 2; j++) { r[i][j] = 0; for (int k = 0; k < 2; k++) r[i][j] += m[i][k] * n[k][j]; } for (int i = 0; i < 4; i++) m[i / 2][i % 2] = r[i / 2][i % 2]; } int main() { m[0][0] = m[1][1] = n[0][0] = n[0][1] = n[1][0] = 1; for (int i = 0; i < 10; i++) times(); return (int) m[0][0]; }", nil, "exited 89"},
		{"extern int get(int a); extern void put(int a); int stack[10]; int top; int pop() { return stack[--top]; } void push(int a) { stack[top++] = a; } int main() { int c; while ((c = get(top)) >= 0) switch (c) { case '+': push(pop() + pop()); break; case '-': { int b = pop(); push(pop() - b); break; } case '*': push(pop() * pop()); break; default: push(c - '0'); } put(top); return pop(); }", []int64{'7', '5', '-', '4', '*', '1', '+', -1}, "get(0) = 55\nget(1) = 53\nget(2) = 45\nget(1) = 52\nget(2) = 42\nget(1) = 49\nget(2) = 43\nget(1) = -1\nput(1)\nexited 9"},
		{"int odd(int n); int even(int n) { return n == 0 || odd(n - 1); } int odd(int n) { return n != 0 && even(n - 1); } int (*table[2])(int) = {even, odd}; int main() { int s = 0; for (int i = 0; i < 8; i++) s |= table[i & 1](i) << i; return s; }", nil, "exited 255"},
		{"union u { double d; unsigned long l; unsigned char c[8]; }; int main() { union u x; x.d = -2.5; int s = 0; for (int i = 8; i--;) s += x.c[i] * (i + 1); return s + (int) (x.l >> 63); }", nil, "exited 1565"},
	} {
		r.check(t)
	}
	u := unitOf(t, sample)
	compare(t, "sample", u, lightOf(t, "sample", u), []int64{5, 6}, api.MaxFuel, 0, 10, 30, 100, api.MaxFuel)
}

// P9.2: what one step of the unit does takes no more steps than the cost allows.
func TestCost(t *testing.T) {
	x := load(api.C32, global("x"))
	for what, round := range map[string]func(api.Expr) api.Expr{
		"Assign": func(e api.Expr) api.Expr { return assign(api.C32, global("x"), op2(api.OpAdd, x, e)) },
		"Modify": func(e api.Expr) api.Expr {
			return modify(api.C32, cond(x, global("x"), global("x")), e, op2(api.OpAdd, old(), arg()))
		},
		"New":           func(e api.Expr) api.Expr { return modify(api.C32, global("x"), i32(1), op2(api.OpAdd, old(), e)) },
		"Cond":          func(e api.Expr) api.Expr { return cond(x, e, e) },
		"And":           func(e api.Expr) api.Expr { return api.And{X: x, Y: e}.Expr() },
		"Or":            func(e api.Expr) api.Expr { return api.Or{X: op1(api.OpFalse, x), Y: e}.Expr() },
		"Comma":         func(e api.Expr) api.Expr { return comma(op1(api.OpNeg, x), e) },
		"a held sum":    func(e api.Expr) api.Expr { return op2(api.OpAdd, x, e) },
		"a first Cond":  func(e api.Expr) api.Expr { return cond(e, i32(1), i32(2)) },
		"a call's args": func(e api.Expr) api.Expr { return comma(calls("show", sigOf("iv"), op2(api.OpAdd, x, e)), i32(1)) },
	} {
		e := assign(api.C32, global("x"), i32(1))
		for range 7 {
			e = round(e)
		}
		loop := api.Loop{Body: []api.Stmt{do(e)}, Step: []api.Stmt{do(modify(api.C32, local(0), i32(1), op2(api.OpAdd, old(), arg())))}}
		loop.Test = op2(api.OpLt, load(api.C32, local(0)), i32(5))
		u := unitWith(api.Func{Name: "main", Sig: sigOf("i"), Locals: []api.Slot{{Size: 4, Align: 4, Chunk: api.C32}}, Body: []api.Stmt{do(assign(api.C32, local(0), i32(0))), loop.Stmt(), ret(i32(0))}})
		u.Vars = []api.Var{{Name: "x", Size: 4, Align: 4}}
		a, b := core.Run(u, nil, nil, api.MaxFuel), core.Run(lightOf(t, what, u), nil, nil, api.MaxFuel)
		if a.Status != api.Exited || !trace.Same(a, b) || b.Steps > a.Steps*costOf(u)/2 {
			t.Errorf("%s: %s and %s, the cost being %d", what, shown(a), shown(b), costOf(u))
		}
	}
}

// Parts that are nested as deep as they may be.
func TestDeepParts(t *testing.T) {
	const deep = 1<<16 - 50
	nested := func(x api.Expr, round func(api.Expr) api.Expr) api.Expr {
		for range deep {
			x = round(x)
		}
		return x
	}
	x := load(api.C32, global("x"))
	for what, round := range map[string]func(api.Expr) api.Expr{
		"Load":   func(e api.Expr) api.Expr { return load(api.C64, e) },
		"Op1":    func(e api.Expr) api.Expr { return op1(api.OpNeg, e) },
		"left":   func(e api.Expr) api.Expr { return op2(api.OpAdd, e, i32(1)) },
		"right":  func(e api.Expr) api.Expr { return op2(api.OpAdd, x, e) },
		"first":  func(e api.Expr) api.Expr { return cond(e, i32(1), i32(1)) },
		"Cond":   func(e api.Expr) api.Expr { return cond(x, i32(1), e) },
		"Comma":  func(e api.Expr) api.Expr { return comma(x, e) },
		"ahead":  func(e api.Expr) api.Expr { return comma(e, x) },
		"And":    func(e api.Expr) api.Expr { return api.And{X: i32(1), Y: e}.Expr() },
		"Or":     func(e api.Expr) api.Expr { return api.Or{X: e, Y: i32(1)}.Expr() },
		"Assign": func(e api.Expr) api.Expr { return assign(api.C32, global("x"), e) },
		"place":  func(e api.Expr) api.Expr { return assign(api.C32, comma(e, global("x")), i32(1)) },
		"Modify": func(e api.Expr) api.Expr { return modify(api.C32, global("x"), e, op2(api.OpSub, old(), arg())) },
		"New":    func(e api.Expr) api.Expr { return modify(api.C32, global("x"), i32(1), e) },
		"Call":   func(e api.Expr) api.Expr { return calls("int", sigOf("ii"), e) },
	} {
		e := nested(calls("int", sigOf("ii"), i32(1)), round)
		body := []api.Stmt{ret(e)}
		if what == "Cond" || what == "ahead" {
			body = []api.Stmt{do(e), ret(i32(0))}
		}
		u := unitWith(api.Func{Name: "main", Sig: sigOf("i"), Body: body})
		u.Vars = []api.Var{{Name: "x", Size: 4}}
		if o := core.Run(simpl.Unit(u), nil, nil, api.MaxFuel); len(o.Trace) == 0 {
			t.Errorf("%s: %s", what, shown(o))
		}
	}
	s := do(calls("show", sigOf("iv"), i32(6)))
	for n := range deep {
		switch list := []api.Stmt{s}; n % 5 {
		case 0:
			s = api.Block{List: list}.Stmt()
		case 1:
			s = api.If{X: cond(i32(1), i32(1), i32(2)), Then: list}.Stmt()
		case 2:
			s = api.Loop{After: true, Body: list, Test: comma(op1(api.OpNeg, i32(0)), i32(0))}.Stmt()
		case 3:
			s = api.Switch{X: assign(api.C32, global("x"), i32(3)), Items: []api.Item{{Default: true}, {S: s}}}.Stmt()
		case 4:
			s = api.Loop{Test: comma(op1(api.OpNeg, i32(0)), i32(1)), Body: append(list, api.Break{}.Stmt())}.Stmt()
		}
	}
	u := unitWith(api.Func{Name: "main", Sig: sigOf("i"), Body: []api.Stmt{s, ret(i32(3))}})
	u.Vars = []api.Var{{Name: "x", Size: 4}}
	a, b := core.Run(u, nil, nil, api.MaxFuel), core.Run(simpl.Unit(u), nil, nil, api.MaxFuel)
	if a.Status != api.Exited || len(a.Trace) != 1 || !trace.Refines(a, b) {
		t.Errorf("%s, not %s", shown(b), shown(a))
	}
}

// Units of other languages, and of none, are answered without a panic; what is Light stays so.
func TestOddUnits(t *testing.T) {
	none := api.Expr{}
	frame := api.Frame{Off: 8}.Expr()
	more := api.OpI{Op: api.OpAdd, X: temp(0), N: 1}.Expr()
	put := api.Put{Chunk: api.C32, Addr: frame, Off: 4, X: more}.Stmt()
	invoke := api.Invoke{N: 0, F: global("int"), Args: []api.Expr{temp(0)}, Sig: sigOf("ii")}.Stmt()
	body := []api.Stmt{api.Set{N: 0, X: i32(4)}.Stmt(), put, invoke, ret(temp(0))}
	light := simpl.Unit(unitWith(api.Func{Name: "main", Sig: sigOf("i"), Temps: 1, Body: body}))
	if f := light.Funcs[0]; f.Temps != 1 || !reflect.DeepEqual(f.Body, body) {
		t.Errorf("%+v", f)
	}
	if u := simpl.Unit(api.Unit{}); !reflect.ValueOf(u).IsZero() {
		t.Errorf("%+v", u)
	}
	stmts := []api.Stmt{
		{}, {Kind: 99}, do(none), ret(none), api.Set{X: none}.Stmt(), api.Put{}.Stmt(), api.Invoke{}.Stmt(), api.If{}.Stmt(), api.Loop{After: true}.Stmt(), api.Switch{Items: []api.Item{{}}}.Stmt(), api.Block{}.Stmt(),
		{Kind: api.KDo}, {Kind: api.KPut}, {Kind: api.KInvoke}, {Kind: api.KLoop},
	}
	for kind := range api.KCall + 3 {
		bare := api.Expr{Kind: kind}
		stmts = append(stmts, do(bare), ret(bare), ret(op2(api.OpAdd, bare, calls("int", sigOf("ii"), bare))), ret(modify(0, bare, bare, bare)))
	}
	for i, s := range stmts {
		u := unitWith(api.Func{Name: "main", Sig: sigOf("i"), Body: []api.Stmt{s, s}})
		if v := simpl.Unit(u); len(v.Funcs) != 1 || v.Funcs[0].Name != "main" {
			t.Errorf("%d: %+v", i, v)
		}
	}
	// a call without a result, where one is asked for, is undefined
	nothing := calls("show", sigOf("iv"), i32(1))
	for _, s := range []api.Stmt{ret(nothing), ret(cond(i32(1), nothing, i32(1))), ret(op1(api.OpNeg, nothing)), ret(comma(assign(api.C32, global("x"), nothing), load(api.C32, global("x"))))} {
		u := unitWith(api.Func{Name: "main", Sig: sigOf("i"), Body: []api.Stmt{s}})
		u.Vars = []api.Var{{Name: "x", Size: 4}}
		light := simpl.Unit(u)
		text := bodyText(light.Funcs[0].Body)
		if o := core.Run(light, nil, nil, 100); o.Status != api.Wrong || len(o.Trace) != 1 || strings.Contains(text, "= invoke") {
			t.Errorf("%s: %s", text, shown(o))
		}
	}
}
