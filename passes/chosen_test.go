package passes

import (
	"reflect"
	"slices"
	"testing"

	"alembic/api"
	"alembic/choose"
	"alembic/core"
	"alembic/trace"
)

var targets = []int{api.RV64, api.X64}

// fits tells whether a number is one that an operation or an offset of a target may have.
func fits(target int, n int64) bool {
	if target == api.RV64 {
		return n >= -2048 && n <= 2047
	}
	return n >= -2147483648 && n <= 2147483647
}

// The operations of Int that may have a number; those whose order plays no part stand first.
var withNumbers = []int{api.OpAdd, api.OpAnd, api.OpOr, api.OpXor, api.OpEq, api.OpNe, api.OpLt, api.OpLe, api.OpGt, api.OpGe, api.OpLtU, api.OpLeU, api.OpGtU, api.OpGeU}

const eitherWay = 6

// ofBoth is operations, of Int and of Long.
func ofBoth(ops ...int) []int {
	for _, op := range slices.Clone(ops) {
		ops = append(ops, op+api.OfLong)
	}
	return ops
}

// mayHave tells whether there may be an OpI of an operation and a number.
func mayHave(target, op int, n int64) bool {
	switch {
	case slices.Contains([]int{api.OpShl, api.OpShr, api.OpShrU}, op):
		return n >= 0 && n <= 31
	case slices.Contains([]int{api.OpShl + api.OfLong, api.OpShr + api.OfLong, api.OpShrU + api.OfLong}, op):
		return n >= 0 && n <= 63
	}
	return slices.Contains(ofBoth(slices.Clone(withNumbers)...), op) && fits(target, n)
}

// numberOf is the number that an expression is, by its sign.
func numberOf(e api.Expr) (int64, bool) {
	switch {
	case e.Kind == api.KNum && e.V.Kind == api.Int:
		return int64(int32(uint32(e.V.Bits))), true
	case e.Kind == api.KNum && e.V.Kind == api.Long:
		return int64(e.V.Bits), true
	}
	return 0, false
}

// asNumber is what an operation of two becomes that can have a number; false, if it can't.
func asNumber(target int, x api.Op2) (api.OpI, bool) {
	n, isNum := numberOf(x.Y)
	switch x.Op {
	case api.OpSub:
		n = int64(int32(-n))
		x.Op = api.OpAdd
	case api.OpSub + api.OfLong:
		n = -n
		x.Op = api.OpAdd + api.OfLong
	default:
		if isNum && mayHave(target, x.Op, n) {
			break
		}
		if slices.Contains(ofBoth(slices.Clone(withNumbers[:eitherWay])...), x.Op) {
			n, isNum = numberOf(x.X)
			x.X = x.Y
		}
	}
	if !isNum || !mayHave(target, x.Op, n) {
		return api.OpI{}, false
	}
	return api.OpI{Op: x.Op, X: x.X, N: n}, true
}

// asOffset is an address and an offset of which as much as can be is the offset.
func asOffset(target int, at api.Expr, off int) (api.Expr, int) {
	if at.Kind == api.KOpI && at.A == api.OpAdd+api.OfLong && fits(target, int64(off)+at.N) {
		return asOffset(target, at.Kids[0], off+int(at.N))
	}
	return at, off
}

// chosenExprs are what expressions become, as the document says.
func chosenExprs(target int, list []api.Expr) []api.Expr {
	var made []api.Expr
	for _, e := range list {
		e.Kids = chosenExprs(target, e.Kids)
		if e.Kind == api.KLoad {
			e.Kids[0], e.B = asOffset(target, e.Kids[0], e.B)
		}
		if x, ok := asNumber(target, e.Op2()); ok && e.Kind == api.KOp2 {
			e = x.Expr()
		}
		made = append(made, e)
	}
	return made
}

// chosenStmts are what statements become among which there is no switch, as the document says.
func chosenStmts(target int, list []api.Stmt) []api.Stmt {
	var made []api.Stmt
	for _, s := range list {
		s.X, s.One, s.Two = chosenExprs(target, s.X), chosenStmts(target, s.One), chosenStmts(target, s.Two)
		if s.Kind == api.KPut {
			s.X[0], s.B = asOffset(target, s.X[0], s.B)
		}
		made = append(made, s)
	}
	return made
}

// hasSwitch tells whether there is a switch among statements.
func hasSwitch(list []api.Stmt) bool {
	return slices.ContainsFunc(list, func(s api.Stmt) bool {
		return s.Kind == api.KSwitch || hasSwitch(s.One) || hasSwitch(s.Two)
	})
}

// chosen is what choose makes of a unit.
func chosen(t testing.TB, target int, u api.Unit) api.Unit {
	t.Helper()
	made, errno := choose.Unit(target, u)
	if errno != api.OK {
		t.Fatalf("error %d", errno)
	}
	return made
}

// selOf is what choose makes of a unit, which must be what the document says (P12.1).
func selOf(t testing.TB, what string, target int, u api.Unit) api.Unit {
	t.Helper()
	made := chosen(t, target, u)
	for _, fault := range selFaultsOf(target, made) {
		t.Errorf("%s\ntarget %d: %s", what, target, fault)
	}
	if sharing(u, made) {
		t.Errorf("%s\nmemory is shared", what)
	}
	if !reflect.DeepEqual(chosen(t, target, u), made) {
		t.Errorf("%s\nis something else the second time", what)
	}
	if !reflect.DeepEqual(made.Vars, u.Vars) || !reflect.DeepEqual(made.Externs, u.Externs) || len(made.Funcs) != len(u.Funcs) {
		t.Fatalf("%s\nis of other parts: %+v", what, made)
	}
	for i, f := range u.Funcs {
		got := made.Funcs[i]
		want := api.Func{Name: f.Name, Sig: f.Sig, Params: f.Params, Frame: f.Frame, Temps: got.Temps, Body: got.Body}
		if !hasSwitch(f.Body) {
			want.Temps, want.Body = f.Temps, chosenStmts(target, f.Body)
		}
		if !reflect.DeepEqual(got, want) || got.Temps < f.Temps {
			t.Errorf("%s\n%s\nis\n%s\nnot\n%s", what, funcText(f), funcText(got), funcText(want))
		}
	}
	return made
}

// compareEnds asks whether what choose made of a unit means the same (P12.2), and, where both come to an end, whether that is the same, wrong or not.
func compareEnds(t testing.TB, what string, u, made api.Unit, script []int64, madeFuel int, fuels ...int) {
	t.Helper()
	compare(t, what, u, made, script, madeFuel, fuels...)
	b := core.Run(made, []int{1, 0, 1, 1}, script, madeFuel)
	for _, fuel := range fuels {
		a := core.Run(u, nil, script, fuel)
		if a.Status != api.Running && b.Status != api.Running && !trace.Same(a, b) {
			t.Errorf("%s\nfuel %d: %s, not %s", what, fuel, shown(b), shown(a))
		}
		if a.Status == api.Wrong && b.Status == api.Running && (a.Steps+2)*costOf(u) <= madeFuel {
			t.Errorf("%s\nfuel %d: %s comes to no end, but %s", what, fuel, shown(b), shown(a))
		}
	}
}
