package passes

import (
	"math"
	"reflect"
	"testing"

	"alembic/api"
	"alembic/graph"
	"alembic/mach"
	"alembic/rtl"
)

// Units that aren't right Sel are answered without a panic.
func TestOddSel(t *testing.T) {
	none := api.Expr{}
	stmts := []api.Stmt{
		{}, {Kind: 99}, {Kind: api.KPut}, {Kind: api.KSwitch}, {Kind: api.KLoop}, {Kind: api.KInvoke}, {Kind: api.KSet}, {Kind: api.KIf}, api.Break{}.Stmt(), api.Continue{}.Stmt(), api.Do{X: local(3)}.Stmt(), api.Label{}.Stmt(), api.Goto{Name: "none"}.Stmt(), api.Goto{}.Stmt(),
		api.Switch{X: none, Items: []api.Item{{}, {Case: true, Default: true, Value: 1 << 63}, {S: ret(none)}}}.Stmt(), api.Put{Chunk: 99, Addr: i32(1), Off: math.MaxInt64, X: i64(1)}.Stmt(), ret(temp(-1)), ret(temp(math.MinInt)),
		set(-3, api.Load{Chunk: -1, Addr: none, Off: math.MinInt64}.Expr()), set(0, op2(-5, i32(1), i64(2))), set(0, op2(math.MaxInt, none, none)), set(0, op1(math.MinInt, none)), set(0, opI(math.MaxInt, temp(0), 1)), set(0, opI(math.MinInt, temp(0), 1)), set(0, api.Num{}.Expr()), set(0, api.Num{V: api.Value{Kind: 77}}.Expr()), set(0, api.Num{V: mach.PtrOf(1, 2)}.Expr()), set(math.MinInt, temp(math.MaxInt)),
		invoke(0, "show", "iiiiv", i32(1)), invoke(0, "show", "v", i32(1), i32(2)), invoke(0, "none", "v"), invoke(-7, "int", "ii", i32(1)), api.Invoke{N: 3, F: none, Args: []api.Expr{none}, Sig: api.Sig{Params: []int{-1}, Result: 99}}.Stmt(),
		api.If{X: op1(api.OpTruth, none), Then: []api.Stmt{{}}}.Stmt(), api.Loop{After: true, Step: []api.Stmt{api.Continue{}.Stmt()}}.Stmt(),
	}
	for kind := range api.KCall + 3 {
		bare := api.Expr{Kind: kind}
		stmts = append(stmts, set(0, bare), ret(bare), api.If{X: bare}.Stmt(), put(api.C32, bare, bare), set(1, op1(api.OpFalse, bare)), set(1, op2(api.OpAdd, bare, bare)), set(1, opI(api.OpAdd, bare, 1)), api.Invoke{N: 1, F: bare, Args: []api.Expr{bare}, Sig: sigOf("ii")}.Stmt())
	}
	for i, s := range stmts {
		for _, f := range []api.Func{
			{Name: "main", Sig: sigOf("i"), Temps: 2, Body: []api.Stmt{s, s}},
			{Name: "main", Sig: sigOf("v"), Params: []int{3, -7, 1 << 62, -1 << 63}, Temps: -4, Frame: -8, Body: []api.Stmt{s, set(0, i64(1)), s}},
			{Name: "main", Sig: api.Sig{Params: []int{0, 5, api.Int}, Result: 9}, Params: []int{3, -1, 1 << 62, -1 << 63}, Frame: math.MaxInt, Body: []api.Stmt{s, s}},
		} {
			g := graph.Unit(unitWith(f))
			if len(g.Funcs) != 1 || g.Funcs[0].Name != "main" || len(g.Funcs[0].Params) != len(f.Sig.Params) {
				t.Errorf("%d: %+v", i, g)
			}
			rtl.Right(g)
			rtl.Run(g, nil, 50)
		}
	}
	if g := graph.Unit(api.Unit{}); !reflect.ValueOf(g).IsZero() {
		t.Errorf("%+v", g)
	}
}
