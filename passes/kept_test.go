package passes

import (
	"fmt"
	"slices"
	"testing"

	"alembic/api"
	"alembic/layout"
	"alembic/locals"
)

// exprSpots are statements, in each of which an expression of the kind Int or Long stands in another spot.
func exprSpots(e api.Expr) []api.Stmt {
	other := i32(1)
	return []api.Stmt{
		set(0, e),
		set(0, op1(api.OpNeg, e)),
		set(0, op2(api.OpAdd, e, other)),
		set(0, op2(api.OpAdd, other, e)),
		set(0, op1(api.OpNot, op2(api.OpSub, other, op1(api.OpNeg, e)))),
		set(0, load(api.C8S, op1(api.OpLongS, e))),
		put(api.C32, global("g"), e),
		put(api.C32, op1(api.OpLongS, e), other),
		put(api.C8U, behind(e, 4), other),
		api.Invoke{N: -1, F: op1(api.OpLongS, e), Args: []api.Expr{other}, Sig: sigOf("ii")}.Stmt(),
		invoke(0, "f", "iii", e, other),
		invoke(-1, "f", "iii", other, e),
		api.If{X: e}.Stmt(),
		api.Loop{Test: e}.Stmt(),
		api.Loop{Test: e, After: true, Body: []api.Stmt{set(0, other)}}.Stmt(),
		api.Switch{X: e}.Stmt(),
		ret(e),
	}
}

// stmtSpots are bodies, in each of which a statement stands in another spot.
func stmtSpots(s api.Stmt) [][]api.Stmt {
	list, other := []api.Stmt{s}, []api.Stmt{ret(i32(0))}
	return [][]api.Stmt{
		list,
		{other[0], s},
		{s, other[0]},
		{api.If{X: i32(1), Then: list, Else: other}.Stmt()},
		{api.If{X: i32(1), Then: other, Else: list}.Stmt()},
		{api.Loop{Test: i32(1), Body: list, Step: other}.Stmt()},
		{api.Loop{Body: other, Step: list}.Stmt()},
		{api.Loop{Test: i32(1), After: true, Body: list}.Stmt()},
		{api.Switch{X: i32(1), Items: []api.Item{{Case: true, Value: 1}, {S: s}, {Default: true}}}.Stmt()},
		{api.Switch{X: i64(1), Long: true, Items: []api.Item{{S: other[0]}, {S: s}}}.Stmt()},
		{api.Block{List: list}.Stmt()},
		{api.Block{List: []api.Stmt{api.Block{List: list}.Stmt(), api.If{X: i32(1), Else: []api.Stmt{api.Loop{Body: list}.Stmt()}}.Stmt()}}.Stmt()},
		{api.Label{Name: "a"}.Stmt(), s, api.Goto{Name: "a"}.Stmt(), api.Loop{Body: []api.Stmt{api.Break{}.Stmt(), s, api.Continue{}.Stmt()}}.Stmt()},
	}
}

// slots are a local of each chunk, and one that is no scalar.
func slots() []api.Slot {
	list := []api.Slot{{Size: 16, Align: 4}}
	for chunk := api.C8S; chunk <= api.CF64; chunk++ {
		list = append(list, slotOf(chunk))
	}
	return list
}

// isGone tells whether a local is gone of which nothing is asked but as a chunk.
func isGone(s api.Slot, chunk int) bool {
	return chunk == s.Chunk && (chunk == api.C32 || chunk == api.C64 || chunk == api.CF64)
}

// checkLocal asks whether the only local of a function stays, and what becomes of the function's body.
func checkLocal(t *testing.T, s api.Slot, body []api.Stmt, stays bool, want []api.Stmt) {
	t.Helper()
	f := api.Func{Name: "f", Sig: sigOf("i"), Locals: []api.Slot{s}, Temps: 1, Body: body}
	if kept := locals.Kept(f); !slices.Equal(kept, []bool{stays}) {
		t.Errorf("%s\nstays: %v", funcText(f), kept)
	}
	made := locals.Unit(api.Unit{Funcs: []api.Func{f}}).Funcs[0]
	if bodyText(made.Body) != bodyText(want) || (len(made.Locals) == 1) != stays {
		t.Errorf("%s\nis\n%s\nnot\n%s", funcText(f), funcText(made), bodyText(want))
	}
}

// P10.1: wherever an expression stands, a local stays, if it has its address for anything but to load just its chunk; what else is loaded is a temporary.
func TestExpressionsEverywhere(t *testing.T) {
	for _, s := range slots() {
		for chunk := 0; chunk <= api.CF64; chunk++ {
			e := local(0)
			if chunk != 0 {
				e = load(chunk, e)
			}
			becomes := e
			if isGone(s, chunk) {
				becomes = temp(1)
			}
			for _, round := range []func(api.Expr) api.Expr{
				func(e api.Expr) api.Expr { return e },
				func(e api.Expr) api.Expr { return load(api.C32, behind(e, 4)) },
				func(e api.Expr) api.Expr { return load(api.CF64, load(api.C64, behind(e, 0))) },
			} {
				for i, statement := range exprSpots(round(e)) {
					want := stmtSpots(exprSpots(round(becomes))[i])
					for k, body := range stmtSpots(statement) {
						checkLocal(t, s, body, !isGone(s, chunk), want[k])
					}
				}
			}
		}
	}
}

// P10.1: wherever a Put of a local stands, it becomes a Set, if its chunk is just the local's.
func TestPutsEverywhere(t *testing.T) {
	for _, s := range slots() {
		for chunk := api.C8S; chunk <= api.CF64; chunk++ {
			want := stmtSpots(put(chunk, local(0), i32(7)))
			if isGone(s, chunk) {
				want = stmtSpots(set(1, i32(7)))
			}
			for k, body := range stmtSpots(put(chunk, local(0), i32(7))) {
				checkLocal(t, s, body, !isGone(s, chunk), want[k])
			}
		}
		// its own address is put there
		body := []api.Stmt{put(api.C64, local(0), local(0))}
		checkLocal(t, s, body, true, body)
	}
}

// P10.1: what stays has a new number, and what is gone one behind the temporaries that are there.
func TestNumbers(t *testing.T) {
	f := api.Func{Name: "f", Sig: sigOf("lidil"), Temps: 2, Params: []int{4, -2, 2, 3}}
	f.Locals = []api.Slot{slotOf(api.C64), slotOf(api.C8S), slotOf(api.CF64), slotOf(api.C32), slotOf(api.C64)}
	sum := op2(api.OpAdd+api.OfLong, load(api.C64, local(0)), load(api.C64, local(4)))
	f.Body = []api.Stmt{put(api.C64, local(0), local(3)), put(api.CF64, local(2), load(api.CF64, local(2))), set(0, op2(api.OpAdd, temp(1), load(api.C8S, local(1)))), ret(sum)}
	fewer := locals.Unit(unitWith(f)).Funcs[0]
	if got := funcText(fewer); got != "f(t4 t1 t3 l1) [1/1/c8s 4/4/c32] t2 = l1; t3 = t3; t0 = (add t1 (c8s l0)); return (addl t2 t4)" || fewer.Temps != 5 {
		t.Error(got, fewer.Temps)
	}
	minor := layout.Unit(unitWith(fewer)).Funcs[0]
	if got := funcText(minor); got != "f(t4 t1 t3 t5) [] 8 put (c32 f4) t5; t2 = f4; t3 = t3; t0 = (add t1 (c8s f0)); return (addl t2 t4)" || minor.Temps != 6 {
		t.Error(got, minor.Temps)
	}
	minor = layout.Unit(unitWith(f)).Funcs[0]
	if got := funcText(minor); got != "f(t2 t1 t3 t4) [] 40 put (c64 f32) t2; put (cf64 f16) t3; put (c32 f24) t4; put (c64 f0) f24; put (cf64 f16) (cf64 f16); t0 = (add t1 (c8s f8)); return (addl (c64 f0) (c64 f32))" || minor.Temps != 5 {
		t.Error(got, minor.Temps)
	}
}

// P11.1: wherever a local's address stands, the frame's with its offset stands there.
func TestAddressesEverywhere(t *testing.T) {
	list := []api.Slot{{Size: 3, Align: 1}, {Size: 12, Align: 4}, {Size: 1, Align: 1, Chunk: api.C8S}}
	for n, off := range []int{0, 8, 20} {
		for i := range exprSpots(local(n)) {
			for k, body := range stmtSpots(exprSpots(local(n))[i]) {
				f := api.Func{Name: "f", Sig: sigOf("i"), Locals: list, Temps: 1, Body: body}
				made := layout.Unit(api.Unit{Funcs: []api.Func{f}}).Funcs[0]
				want := fmt.Sprintf("f() [] 24 %s", bodyText(stmtSpots(exprSpots(frame(off))[i])[k]))
				if funcText(made) != want || made.Temps != 1 {
					t.Errorf("%s\nis\n%s\nnot\n%s", funcText(f), funcText(made), want)
				}
			}
		}
		for k, body := range stmtSpots(put(api.C8S, local(n), load(api.C8U, local(0)))) {
			f := api.Func{Name: "f", Sig: sigOf("i"), Locals: list, Body: body}
			made := layout.Unit(api.Unit{Funcs: []api.Func{f}}).Funcs[0]
			if want := bodyText(stmtSpots(put(api.C8S, frame(off), load(api.C8U, frame(0))))[k]); bodyText(made.Body) != want {
				t.Errorf("%s\nis\n%s\nnot\n%s", funcText(f), funcText(made), want)
			}
		}
	}
}
