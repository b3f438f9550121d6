package core_test

import (
	"testing"

	"alembic/api"
	"alembic/core"
)

// P8.1: what statements do, and the steps that they take.
func TestStatements(t *testing.T) {
	wantMain(t, "extern void put(int a);", [][2]string{
		// none of these takes a step but the Return
		{"; {} { ; } a: b: return 1;", "exited 1 [2]"},
		{"int x; { int y; } return 1;", "exited 1 [2]"},
		{"int x = 1; x; x + 1; { x = 3; } return x;", "exited 3 [6]"},
		{"if (1) put(1); else put(2); return 0;", "put(1); exited 0 [4]"},
		{"if (0) put(1); else put(2); return 0;", "put(2); exited 0 [4]"},
		{"if (0) put(1); return 0;", "exited 0 [3]"},
		{"if (1) ; else put(1); return 0;", "exited 0 [3]"},
		{"if (1) if (0) put(1); else put(2); return 0;", "put(2); exited 0 [5]"},
		{"int x; if (x) put(1); return 0;", "wrong [2]"},
		{"if (0.25) put(1); if (put) put(2); return 0;", "put(1); put(2); exited 0 [6]"},
		// loops: a step at each test
		{"while (0) put(1); return 0;", "exited 0 [3]"},
		{"int i = 2; while (i--) put(i); return 0;", "put(1); put(0); exited 0 [8]"},
		{"do put(1); while (0); return 0;", "put(1); exited 0 [4]"},
		{"int i = 2; do put(i); while (--i); return 0;", "put(2); put(1); exited 0 [7]"},
		{"for (int i = 0; i < 2; i++) put(i); return 0;", "put(0); put(1); exited 0 [10]"},
		{"for (;;) break; return 0;", "exited 0 [3]"},
		{"for (;;) return 2;", "exited 2 [3]"},
		{"int i; for (i = 0; ; i++) if (i == 2) break; return i;", "exited 2 [11]"},
		{"int i = 0; for (; i < 2; ) i++; return i;", "exited 2 [8]"},
		{"int x; while (x) ; return 0;", "wrong [2]"},
		{"int x; do put(1); while (x); return 0;", "put(1); wrong [3]"},
		{"while (1) { put(1); break; put(2); } return 0;", "put(1); exited 0 [4]"},
		{"do { put(1); break; } while (1); return 0;", "put(1); exited 0 [3]"},
		{"for (int i = 0; i < 3; i++) { if (i == 1) continue; put(i); } return 0;", "put(0); put(2); exited 0 [15]"},
		{"int i = 0; while (i < 3) { i++; if (i == 2) continue; put(i); } return 0;", "put(1); put(3); exited 0 [15]"},
		{"int i = 0; do { i++; if (i == 2) continue; put(i); } while (i < 3); return 0;", "put(1); put(3); exited 0 [14]"},
		{"for (int i = 0; i < 2; i++) for (int j = 0; ; j++) { if (j > i) break; put(i * 10 + j); } return 0;", "put(0); put(10); put(11); exited 0 [26]"},
		{"for (int i = 0; i < 2; i++) { for (int j = 0; j < 2; j++) { if (j == i) continue; put(j); } put(9); } return 0;", "put(1); put(9); put(0); put(9); exited 0 [28]"},
		{"for (;;) { while (1) break; break; } return 0;", "exited 0 [4]"},
		{"while (1) ;", "running [65536]"},
		{"for (;;) { continue; }", "running [65536]"},
		{"do ; while (1);", "running [65536]"},
		// switches: a step at the test
		{"switch (2) { case 1: put(1); case 2: put(2); case 3: put(3); } return 0;", "put(2); put(3); exited 0 [5]"},
		{"switch (2) { case 1: put(1); break; case 2: put(2); break; default: put(3); } return 0;", "put(2); exited 0 [4]"},
		{"switch (5) { case 1: put(1); default: put(2); case 3: put(3); } return 0;", "put(2); put(3); exited 0 [5]"},
		{"switch (3) { default: put(2); case 3: put(3); } return 0;", "put(3); exited 0 [4]"},
		{"switch (5) { case 1: put(1); } return 0;", "exited 0 [3]"},
		{"switch (5) { } return 0;", "exited 0 [3]"},
		{"switch (5) { put(1); default: ; } return 0;", "exited 0 [3]"},
		{"switch (5) { put(1); } return 0;", "exited 0 [3]"},
		{"switch (-1) { case 4294967295: put(1); } return 0;", "put(1); exited 0 [4]"},
		{"switch (-1L) { case 4294967295: put(1); break; case -1: put(2); } return 0;", "put(2); exited 0 [4]"},
		{"switch (4294967296L) { case 0: put(1); break; default: put(2); } return 0;", "put(2); exited 0 [4]"},
		{"char c = 97; switch (c) { case 'a': put(1); } return 0;", "put(1); exited 0 [5]"},
		{"int x; switch (x) { default: put(1); } return 0;", "wrong [2]"},
		{"int x; switch (x) { } return 0;", "wrong [2]"},
		{"switch (1) { case 1: switch (2) { case 2: break; default: put(1); } put(2); } return 0;", "put(2); exited 0 [5]"},
		{"for (int i = 0; i < 3; i++) switch (i) { case 1: continue; case 2: break; default: put(i); } return 0;", "put(0); exited 0 [14]"},
		{"for (int i = 0; i < 2; i++) { switch (i) { case 0: continue; } put(i); } return 0;", "put(1); exited 0 [11]"},
		// gotos: a step, and then on behind the label
		{"goto a; put(1); a: return 0;", "exited 0 [3]"},
		{"int i = 0; a: i++; if (i < 3) goto a; return i;", "exited 3 [11]"},
		{"goto a; while (0) { put(1); a: put(2); } return 0;", "put(2); exited 0 [5]"},
		{"int i; goto a; for (i = 0; i < 2; i++) { put(1); a: i = 1; put(i); } return 0;", "put(1); exited 0 [7]"},
		{"int i = 0; goto a; for (i = 9; i < 2; i++) { put(5); a: put(i); } return 0;", "put(0); put(5); put(1); exited 0 [11]"},
		{"goto a; do { put(1); a: put(2); } while (0); return 0;", "put(2); exited 0 [5]"},
		{"goto a; do { put(1); a: break; } while (1); return 0;", "exited 0 [3]"},
		{"int i = 0; goto a; while (i < 2) { i++; continue; a: put(i); continue; } return 0;", "put(0); exited 0 [10]"},
		{"goto a; switch (7) { case 7: put(1); { a: put(2); } case 8: put(3); break; default: put(4); } put(5); return 0;", "put(2); put(3); put(5); exited 0 [6]"},
		{"goto a; if (1) { put(1); a: put(2); } else put(3); return 0;", "put(2); exited 0 [4]"},
		{"goto a; if (1) put(1); else { put(2); a: put(3); } put(4); return 0;", "put(3); put(4); exited 0 [5]"},
		{"for (int i = 0; i < 3; i++) { for (;;) { put(i); if (i == 1) goto out; goto next; } next: ; } out: put(9); return 0;", "put(0); put(1); put(9); exited 0 [15]"},
		{"a: goto a;", "running [65536]"},
		{"{ goto a; { { a: ; } } } return 3;", "exited 3 [3]"},
		{"return 0; return 1 / 0;", "exited 0 [2]"},
	})
}

// P8.1: the functions and the statements of Light, Minor and Sel.
func TestOtherLanguages(t *testing.T) {
	i, l, d := sigOf("ii"), sigOf("ll"), sigOf("dd")
	add, addL := api.OpAdd, api.OpAdd+api.OfLong
	half := api.Num{V: api.Value{Kind: api.Double, Bits: 0x3fe0000000000000}}.Expr()
	for _, r := range []struct {
		what string
		f    api.Func
		want string
	}{
		{"Set and Temp", api.Func{Temps: 2, Body: []api.Stmt{set(1, i32(7)), set(0, op2(add, temp(1), i32(1))), ret(temp(0))}}, "exited 8 [4]"},
		{"a temporary that wasn't set", api.Func{Temps: 2, Body: []api.Stmt{set(0, temp(1)), set(1, i32(2)), ret(temp(0))}}, "wrong [4]"},
		{"a temporary holds any value", api.Func{Temps: 1, Body: []api.Stmt{set(0, i32(7)), set(0, global("main")), set(0, i64(3)), set(0, half), set(0, i32(4)), ret(temp(0))}}, "exited 4 [7]"},
		{"Put and Load of a local", api.Func{Locals: []api.Slot{{Size: 4}, {Size: 8}}, Body: []api.Stmt{put(api.C32, local(1), 4, i32(5)), put(api.C32, local(0), 0, i32(6)), ret(op2(add, load(api.C32, local(1), 4), load(api.C32, local(0), 0)))}}, "exited 11 [4]"},
		{"a Put beyond a local", api.Func{Locals: []api.Slot{{Size: 4}, {Size: 8}}, Body: []api.Stmt{put(api.C32, local(0), 4, i32(5)), ret(i32(0))}}, "wrong [2]"},
		{"a Put ahead of a local", api.Func{Locals: []api.Slot{{Size: 4}, {Size: 8}}, Body: []api.Stmt{put(api.C32, local(1), -4, i32(5)), ret(i32(0))}}, "wrong [2]"},
		{"a Put of another kind", api.Func{Locals: []api.Slot{{Size: 8}}, Body: []api.Stmt{put(api.C64, local(0), 0, i32(5)), ret(i32(0))}}, "wrong [2]"},
		{"the frame", api.Func{Frame: 24, Temps: 1, Body: []api.Stmt{put(api.C32, frame(20), 0, i32(5)), put(api.C32, frame(0), 16, i32(1)), set(0, frame(8)), put(api.C64, temp(0), 0, temp(0)), ret(op2(add, load(api.C32, load(api.C64, frame(8), 0), 12), load(api.C32, frame(24), -8)))}}, "exited 6 [6]"},
		{"beyond the frame", api.Func{Frame: 24, Body: []api.Stmt{put(api.C32, frame(16), 8, i32(5)), ret(i32(0))}}, "wrong [2]"},
		{"an address beyond the frame", api.Func{Frame: 24, Body: []api.Stmt{put(api.C32, frame(24), -4, i32(5)), ret(load(api.C32, frame(20), 0))}}, "exited 5 [3]"},
		{"no frame", api.Func{Body: []api.Stmt{ret(load(api.C8S, frame(0), 0))}}, "wrong [2]"},
		{"the frame's bytes", api.Func{Frame: 8, Body: []api.Stmt{ret(load(api.C32, frame(0), 0))}}, "wrong [2]"},
		{"frame and locals are unlike blocks", api.Func{Frame: 8, Locals: []api.Slot{{Size: 8}}, Body: []api.Stmt{ret(op2(api.OpEq+api.OfLong, frame(0), local(0)))}}, "exited 0 [2]"},
		{"an offset behind no address", api.Func{Body: []api.Stmt{ret(load(api.C32, i64(8), 8))}}, "wrong [2]"},
		{"an offset behind what is undefined", api.Func{Temps: 1, Body: []api.Stmt{ret(load(api.C32, temp(0), 8))}}, "wrong [2]"},
		{"OpI of Int", api.Func{Body: []api.Stmt{ret(opI(add, i32(5), -7))}}, "exited -2 [2]"},
		{"OpI by the low bits", api.Func{Body: []api.Stmt{ret(opI(add, i32(5), 1<<32+7))}}, "exited 12 [2]"},
		{"OpI of Long", api.Func{Body: []api.Stmt{ret(op1(api.OpInt, opI(addL, i64(5), -7)))}}, "exited -2 [2]"},
		{"OpI of Long by all bits", api.Func{Body: []api.Stmt{ret(op1(api.OpInt, opI(api.OpShrU+api.OfLong, opI(addL, i64(0), 5<<40), 40)))}}, "exited 5 [2]"},
		{"OpI that compares Longs", api.Func{Body: []api.Stmt{ret(opI(api.OpLt+api.OfLong, i64(-2), -1))}}, "exited 1 [2]"},
		{"OpI that shifts a Long by an Int", api.Func{Body: []api.Stmt{ret(op1(api.OpInt, opI(api.OpShl+api.OfLong, i64(1), 3)))}}, "exited 8 [2]"},
		{"OpI that shifts too far", api.Func{Body: []api.Stmt{ret(opI(api.OpShl, i32(1), 32))}}, "wrong [2]"},
		{"OpI of an address", api.Func{Frame: 16, Body: []api.Stmt{put(api.C32, opI(addL, frame(0), 8), 4, i32(9)), ret(load(api.C32, frame(4), 8))}}, "exited 9 [3]"},
		{"OpI of another kind", api.Func{Body: []api.Stmt{ret(opI(add, i64(5), 7))}}, "wrong [2]"},
		{"OpI of an operation of one", api.Func{Body: []api.Stmt{ret(opI(api.OpNeg, i32(5), 7))}}, "wrong [2]"},
		{"Invoke", api.Func{Temps: 1, Body: []api.Stmt{invoke(0, "int", i, i32(5)), invoke(-1, "long", l, i64(6)), invoke(-1, "show", sigOf("iv"), temp(0)), invoke(-1, "double", d, half), ret(temp(0))}}, "int(5) = 3; long(6L) = 4L; show(3); double(0x3fe0000000000000) = 0x4018000000000000; exited 3 [6]"},
		{"Invoke without a result", api.Func{Temps: 1, Body: []api.Stmt{set(0, i32(2)), invoke(0, "show", sigOf("iv"), i32(5)), ret(temp(0))}}, "show(5); wrong [4]"},
		{"Invoke of another signature", api.Func{Body: []api.Stmt{invoke(-1, "int", l, i64(5)), ret(i32(0))}}, "wrong [2]"},
		{"Invoke by a temporary", api.Func{Temps: 1, Body: []api.Stmt{set(0, global("int")), api.Invoke{N: 0, F: temp(0), Args: []api.Expr{i32(1)}, Sig: i}.Stmt(), ret(temp(0))}}, "int(1) = 3; exited 3 [4]"},
		{"Invoke of nothing", api.Func{Temps: 1, Body: []api.Stmt{api.Invoke{N: -1, F: temp(0), Sig: sigOf("v")}.Stmt(), ret(i32(0))}}, "wrong [2]"},
		{"Invoke of a function: its call's step, too", api.Func{Temps: 1, Body: []api.Stmt{invoke(0, "mixed", sigOf("ilidi"), i32(1), i64(20), i32(300), half), ret(temp(0))}}, "exited 4321 [5]"},
		{"a switch over a Long", api.Func{Body: []api.Stmt{api.Switch{X: i64(-1), Long: true, Items: []api.Item{{S: ret(i32(1))}, {Case: true, Value: 1<<32 - 1}, {S: ret(i32(2))}, {Case: true, Value: 1<<64 - 1}, {S: ret(i32(3))}}}.Stmt()}}, "exited 3 [3]"},
		{"a switch over an Int", api.Func{Body: []api.Stmt{api.Switch{X: i32(-1), Items: []api.Item{{S: ret(i32(1))}, {Case: true, Value: 1<<64 - 1}, {S: ret(i32(2))}, {Case: true, Value: 1<<32 - 1}, {S: ret(i32(3))}}}.Stmt()}}, "exited 3 [3]"},
		{"a switch over a Double", api.Func{Body: []api.Stmt{api.Switch{X: half, Items: []api.Item{{Default: true}}}.Stmt(), ret(i32(1))}}, "wrong [2]"},
		{"a switch over a Long that is an Int", api.Func{Body: []api.Stmt{api.Switch{X: i32(1), Long: true, Items: []api.Item{{Default: true}}}.Stmt(), ret(i32(1))}}, "wrong [2]"},
		{"a switch over an Int that is a Long", api.Func{Body: []api.Stmt{api.Switch{X: i64(1), Items: []api.Item{{Default: true}}}.Stmt(), ret(i32(1))}}, "wrong [2]"},
		{"a loop whose steps are many", api.Func{Temps: 1, Body: []api.Stmt{set(0, i32(0)), api.Loop{Test: opI(api.OpLt, temp(0), 2), Body: []api.Stmt{api.Continue{}.Stmt()}, Step: []api.Stmt{invoke(-1, "show", sigOf("iv"), temp(0)), set(0, opI(add, temp(0), 1))}}.Stmt(), ret(temp(0))}}, "show(0); show(1); exited 2 [10]"},
		{"Break within a loop's steps", api.Func{Temps: 1, Body: []api.Stmt{set(0, i32(5)), api.Loop{Body: []api.Stmt{set(0, opI(add, temp(0), 1))}, Step: []api.Stmt{api.If{X: opI(api.OpGt, temp(0), 7), Then: []api.Stmt{api.Break{}.Stmt()}}.Stmt()}}.Stmt(), ret(temp(0))}}, "exited 8 [12]"},
		{"a loop of no test with it behind", api.Func{Temps: 1, Body: []api.Stmt{set(0, i32(0)), api.Loop{After: true, Body: []api.Stmt{set(0, opI(add, temp(0), 1)), api.If{X: opI(api.OpEq, temp(0), 2), Then: []api.Stmt{api.Break{}.Stmt()}}.Stmt()}}.Stmt(), ret(temp(0))}}, "exited 2 [8]"},
		{"a loop with its test behind: body, steps, test", api.Func{Temps: 1, Body: []api.Stmt{set(0, i32(0)), api.Loop{After: true, Test: opI(api.OpLt, temp(0), 4), Body: []api.Stmt{invoke(-1, "show", sigOf("iv"), temp(0))}, Step: []api.Stmt{set(0, opI(add, temp(0), 2))}}.Stmt(), ret(temp(0))}}, "show(0); show(2); exited 4 [9]"},
		{"a goto into a loop's steps", api.Func{Temps: 1, Body: []api.Stmt{set(0, i32(0)), api.Goto{Name: "in"}.Stmt(), api.Loop{Test: opI(api.OpLt, temp(0), 3), Body: []api.Stmt{invoke(-1, "show", sigOf("iv"), temp(0))}, Step: []api.Stmt{set(0, i32(9)), api.Label{Name: "in"}.Stmt(), set(0, opI(add, temp(0), 2))}}.Stmt(), ret(temp(0))}}, "show(2); exited 11 [10]"},
	} {
		r.f.Name, r.f.Sig = "main", sigOf("i")
		wantRun(t, r.what, unitWith(r.f, mixed()), r.want, 3, 4, 5, 6)
	}
}

// mixed is a function whose parameters become locals and temporaries: of 1, 20, 300 and 0.5 it makes 4321.
func mixed() api.Func {
	sum := op2(api.OpAdd, load(api.C32, local(1), 0), op1(api.OpInt, temp(2)))
	more := op2(api.OpAdd, load(api.C16S, local(0), 0), op1(api.OpIntD, op2(api.OpMulD, temp(0), api.Num{V: api.Value{Kind: api.Double, Bits: 0x40bf400000000000}}.Expr())))
	return api.Func{Name: "mixed", Sig: sigOf("ilidi"), Params: []int{1, -3, 0, -1}, Temps: 3, Locals: []api.Slot{{Size: 2, Align: 2, Chunk: api.C16S}, {Size: 4, Align: 4, Chunk: api.C32}}, Body: []api.Stmt{ret(op2(api.OpAdd, sum, more))}}
}

// P8.1: a parameter is stored by its local's chunk, if that has a meaning.
func TestParameters(t *testing.T) {
	for _, r := range []struct {
		what  string
		slot  api.Slot
		param int
		arg   api.Expr
		want  string
	}{
		{"an Int by its low bits", api.Slot{Size: 1, Chunk: api.C8S}, 0, i32(511), "exited -1 [4]"},
		{"an Int by its low bits, without a sign", api.Slot{Size: 1, Chunk: api.C8U}, 0, i32(511), "exited 255 [4]"},
		{"a Long into 4 bytes", api.Slot{Size: 4, Chunk: api.C32}, 0, i64(3), "wrong [3]"},
		{"an address into 4 bytes", api.Slot{Size: 4, Chunk: api.C32}, 0, global("main"), "wrong [3]"},
		{"what is undefined", api.Slot{Size: 4, Chunk: api.C32}, 0, temp(0), "wrong [4]"},
		{"beyond the local", api.Slot{Size: 2, Chunk: api.C32}, 0, i32(3), "wrong [3]"},
		{"by no chunk", api.Slot{Size: 4}, 0, i32(3), "wrong [3]"},
	} {
		f := api.Func{Name: "f", Sig: sigOf("ii"), Params: []int{r.param}, Locals: []api.Slot{r.slot}, Body: []api.Stmt{ret(load(r.slot.Chunk, local(0), 0))}}
		wantRun(t, r.what, unitWith(mainOf(ret(calls("f", sigOf("ii"), r.arg))), f), r.want)
	}
}

// P8.1: steps and activations that would be too many.
func TestFuel(t *testing.T) {
	u := unitOf(t, "extern void put(int a); int f(int n) { put(n); return n ? f(n - 1) : 7; } int main() { int x = 0; if (1) x = f(1); while (x--) ; return x; }")
	all := core.Run(u, nil, nil, api.MaxFuel)
	if shown(all) != "put(1); put(0); exited -1 [19]" {
		t.Fatal(shown(all))
	}
	for fuel := -2; fuel <= all.Steps+2; fuel++ {
		o := core.Run(u, nil, nil, fuel)
		if fuel >= all.Steps && !sameOutcome(o, all) || fuel < all.Steps && (o.Status != api.Running || o.Code != 0 || o.Steps != max(fuel, 0)) {
			t.Errorf("fuel %d: %s", fuel, shown(o))
		}
	}
	for _, r := range []struct {
		fuel int
		want string
	}{
		{-1 << 63, "running [0]"}, {-1, "running [0]"}, {0, "running [0]"}, {65535, "running [65535]"}, {65536, "running [65536]"}, {65537, "running [65536]"}, {1<<63 - 1, "running [65536]"},
	} {
		if got := shown(core.Run(unitOf(t, "int main() { for (;;) ; }"), nil, nil, r.fuel)); got != r.want {
			t.Errorf("fuel %d: %s, not %s", r.fuel, got, r.want)
		}
	}
	if got := shown(core.Run(api.Unit{}, nil, nil, 0)); got != "wrong [0]" {
		t.Error(got)
	}
}

// P8.1: as many activations at once as there may be, and no more.
func TestDeepCalls(t *testing.T) {
	const text = "extern void put(int a); int f(int n) { if (n) return f(n - 1); put(1); return 0; } void g() { g(); } int main() { "
	wantAll(t, []row{
		{text: text + "return f(126); }", want: "put(1); exited 0 [384]"},
		{text: text + "return f(127); }", want: "running [383]"},
		{text: text + "f(126); f(126); return f(125); }", want: "put(1); put(1); put(1); exited 0 [1147]"},
		{text: text + "g(); return 0; }", want: "running [256]"},
		{text: "int main() { return main(); }", want: "running [256]"},
	})
}
