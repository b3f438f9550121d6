package passes

import (
	"math"
	"reflect"
	"strings"
	"testing"

	"alembic/api"
	"alembic/mach"
)

// chosenText is what an expression becomes for a target.
func chosenText(t testing.TB, target int, e api.Expr) string {
	t.Helper()
	u := unitWith(api.Func{Name: "f", Sig: sigOf("v"), Temps: 3, Frame: 1 << 20, Body: []api.Stmt{set(0, e)}})
	u.Vars = []api.Var{{Name: "a", Size: 64, Align: 8}}
	return exprText(selOf(t, exprText(e), target, u).Funcs[0].Body[0].Set().X)
}

// P12.1: the document's examples, and where numbers stop to fit.
func TestNumbersOfOperations(t *testing.T) {
	x, y := temp(0), temp(1)
	const addl, subl = api.OpAdd + api.OfLong, api.OpSub + api.OfLong
	for _, r := range []struct {
		e       api.Expr
		rv, x64 string
	}{
		// the document's examples
		{op2(api.OpAdd, x, i32(5)), "(add t0 #5)", "(add t0 #5)"},
		{load(api.C32, op2(addl, i64(16), global("a"))), "(c32 @a +16)", "(c32 @a +16)"},
		{op2(api.OpSub, x, i32(2048)), "(add t0 #-2048)", "(add t0 #-2048)"},
		{op2(api.OpAdd, x, i32(2048)), "(add t0 2048)", "(add t0 #2048)"},
		// either operand, the second one ahead of the first
		{op2(api.OpAdd, i32(7), x), "(add t0 #7)", "(add t0 #7)"},
		{op2(api.OpAdd, i32(7), i32(8)), "(add 7 #8)", "(add 7 #8)"},
		{op2(api.OpAdd, i32(7), i32(5000)), "(add 5000 #7)", "(add 7 #5000)"},
		{op2(api.OpAdd, i32(5000), i32(7)), "(add 5000 #7)", "(add 5000 #7)"},
		{op2(api.OpAdd, i32(5000), i32(6000)), "(add 5000 6000)", "(add 5000 #6000)"},
		{op2(api.OpAdd, x, y), "(add t0 t1)", "(add t0 t1)"},
		{op2(api.OpEq, i32(-3), x), "(eq t0 #-3)", "(eq t0 #-3)"},
		{op2(api.OpLt, i32(-3), x), "(lt -3 t0)", "(lt -3 t0)"},
		{op2(api.OpMul, x, i32(2)), "(mul t0 2)", "(mul t0 2)"},
		// by the sign, without a sign too
		{op2(api.OpLtU, x, i32(-1)), "(ltu t0 #-1)", "(ltu t0 #-1)"},
		{op2(api.OpLtU, x, i32(math.MinInt32)), "(ltu t0 -2147483648)", "(ltu t0 #-2147483648)"},
		{op2(addl, x, i64(1<<32-1)), "(addl t0 L4294967295)", "(addl t0 L4294967295)"},
		{op2(addl, x, i64(-1)), "(addl t0 #-1)", "(addl t0 #-1)"},
		{op2(addl, x, i64(1<<31-1)), "(addl t0 L2147483647)", "(addl t0 #2147483647)"},
		// differences
		{op2(api.OpSub, x, i32(-2048)), "(sub t0 -2048)", "(add t0 #2048)"},
		{op2(api.OpSub, x, i32(-2047)), "(add t0 #2047)", "(add t0 #2047)"},
		{op2(api.OpSub, x, i32(2049)), "(sub t0 2049)", "(add t0 #-2049)"},
		{op2(api.OpSub, x, i32(0)), "(add t0 #0)", "(add t0 #0)"},
		{op2(api.OpSub, i32(5), x), "(sub 5 t0)", "(sub 5 t0)"},
		{op2(api.OpSub, i32(5), i32(6)), "(add 5 #-6)", "(add 5 #-6)"},
		{op2(api.OpSub, i32(5), i32(math.MinInt32)), "(sub 5 -2147483648)", "(add 5 #-2147483648)"},
		{op2(subl, x, i64(1<<31)), "(subl t0 L2147483648)", "(addl t0 #-2147483648)"},
		{op2(subl, x, i64(-1<<31)), "(subl t0 L-2147483648)", "(subl t0 L-2147483648)"},
		{op2(subl, x, i64(math.MinInt64)), "(subl t0 L-9223372036854775808)", "(subl t0 L-9223372036854775808)"},
		// shifts
		{op2(api.OpShl, x, i32(31)), "(shl t0 #31)", "(shl t0 #31)"},
		{op2(api.OpShl, x, i32(32)), "(shl t0 32)", "(shl t0 32)"},
		{op2(api.OpShl, x, i32(-1)), "(shl t0 -1)", "(shl t0 -1)"},
		{op2(api.OpShl, i32(1), x), "(shl 1 t0)", "(shl 1 t0)"},
		// parts of parts
		{op1(api.OpNeg, op2(api.OpAdd, op2(api.OpSub, i32(1), op2(api.OpSub, x, i32(1))), i32(3))), "(neg (add (sub 1 (add t0 #-1)) #3))", "(neg (add (sub 1 (add t0 #-1)) #3))"},
		{op2(api.OpAdd, op2(api.OpAdd, x, i32(1)), i32(2)), "(add (add t0 #1) #2)", "(add (add t0 #1) #2)"},
		{op2(api.OpMul, op2(api.OpAdd, x, i32(1)), op2(api.OpAdd, i32(2), y)), "(mul (add t0 #1) (add t1 #2))", "(mul (add t0 #1) (add t1 #2))"},
		{op2(addl, frame(8), i64(16)), "(addl f8 #16)", "(addl f8 #16)"},
	} {
		if rv, x64 := chosenText(t, api.RV64, r.e), chosenText(t, api.X64, r.e); rv != r.rv || x64 != r.x64 {
			t.Errorf("%s: %s; %s", exprText(r.e), rv, x64)
		}
	}
}

// P12.1: what addresses become in loads, and in puts.
func TestOffsets(t *testing.T) {
	const addl, subl = api.OpAdd + api.OfLong, api.OpSub + api.OfLong
	x := temp(0)
	for _, r := range []struct {
		at      api.Expr
		rv, x64 string
	}{
		{x, "t0", "t0"},
		{global("a"), "@a", "@a"},
		{frame(4096), "f4096", "f4096"},
		{behind(frame(16), 8), "f16 +8", "f16 +8"},
		{behind(x, 0), "t0", "t0"},
		{behind(x, 2047), "t0 +2047", "t0 +2047"},
		{behind(x, 2048), "(addl t0 L2048)", "t0 +2048"},
		{behind(x, -2048), "t0 -2048", "t0 -2048"},
		{behind(x, -2049), "(addl t0 L-2049)", "t0 -2049"},
		{behind(x, 1<<31-1), "(addl t0 L2147483647)", "t0 +2147483647"},
		{behind(x, 1<<31), "(addl t0 L2147483648)", "(addl t0 L2147483648)"},
		{behind(x, -1<<31), "(addl t0 L-2147483648)", "t0 -2147483648"},
		{op2(subl, x, i64(8)), "t0 -8", "t0 -8"},
		{op2(subl, x, i64(-2048)), "(subl t0 L-2048)", "t0 +2048"},
		{op2(addl, i64(8), x), "t0 +8", "t0 +8"},
		{op2(subl, i64(8), x), "(subl L8 t0)", "(subl L8 t0)"},
		// and so on, as far as the offset fits
		{behind(behind(x, 4), 8), "t0 +12", "t0 +12"},
		{behind(behind(behind(x, 1), -20), 8), "t0 -11", "t0 -11"},
		{behind(behind(x, 2000), 47), "t0 +2047", "t0 +2047"},
		{behind(behind(x, 2000), 48), "(addl t0 #2000) +48", "t0 +2048"},
		{behind(behind(behind(x, -100), 2000), 100), "(addl (addl t0 #-100) #2000) +100", "t0 +2000"},
		{behind(behind(x, 1<<31-8), 7), "(addl t0 L2147483640) +7", "t0 +2147483647"},
		{behind(behind(x, 1<<31-8), 8), "(addl t0 L2147483640) +8", "(addl t0 #2147483640) +8"},
		{behind(behind(x, -1<<31), -1), "(addl t0 L-2147483648) -1", "(addl t0 #-2147483648) -1"},
		{behind(behind(x, 5000), 8), "(addl t0 L5000) +8", "t0 +5008"},
		{behind(behind(x, 8), 5000), "(addl (addl t0 #8) L5000)", "t0 +5008"},
		{behind(op2(subl, behind(x, 64), i64(16)), 4), "t0 +52", "t0 +52"},
		// what is added isn't a number, or it isn't an addition
		{op2(addl, behind(x, 8), temp(1)), "(addl (addl t0 #8) t1)", "(addl (addl t0 #8) t1)"},
		{behind(op2(addl, x, temp(1)), 8), "(addl t0 t1) +8", "(addl t0 t1) +8"},
		{op2(api.OpOr+api.OfLong, x, i64(8)), "(41 t0 #8)", "(41 t0 #8)"},
		{op1(api.OpLongS, op2(api.OpAdd, x, i32(8))), "(longs (add t0 #8))", "(longs (add t0 #8))"},
		{behind(load(api.C64, behind(x, 8)), 16), "(c64 t0 +8) +16", "(c64 t0 +8) +16"},
	} {
		for _, target := range targets {
			want := map[int]string{api.RV64: r.rv, api.X64: r.x64}[target]
			if got := chosenText(t, target, load(api.C16U, r.at)); got != "(c16u "+want+")" {
				t.Errorf("target %d: %s: %s", target, exprText(r.at), got)
			}
			u := unitWith(api.Func{Name: "f", Sig: sigOf("v"), Temps: 2, Frame: 8192, Body: []api.Stmt{put(api.CF64, r.at, load(api.CF64, r.at))}})
			u.Vars = []api.Var{{Name: "a", Size: 64, Align: 8}}
			if got := bodyText(selOf(t, exprText(r.at), target, u).Funcs[0].Body); got != "put (cf64 "+want+") (cf64 "+want+")" {
				t.Errorf("target %d: %s: %s", target, exprText(r.at), got)
			}
		}
	}
}

var edges = []int64{0, 1, -1, 2, 5, -7, 31, 32, 33, 63, 64, -31, 2046, 2047, 2048, 2049, -2047, -2048, -2049, 4096, 1 << 20, 1<<31 - 1, 1 << 31, 1<<31 + 1, -1 << 31, -1<<31 + 1, -1<<31 - 1, 1<<32 - 1, 1 << 32, 1<<32 + 5, math.MaxInt64, math.MinInt64, math.MinInt64 + 1}

// valueOf is a number as a value of a kind.
func valueOf(kind int, n int64) api.Value {
	switch kind {
	case api.Int:
		return mach.IntOf(int32(n))
	case api.Long:
		return mach.LongOf(n)
	}
	return mach.DoubleOf(uint64(n))
}

// P12.1, P12.2: each operation of two with each number in each place becomes what the document says, and answers what it did.
func TestAllOperations(t *testing.T) {
	for op := range 300 {
		first, second, _ := mach.Shape(op)
		if second == 0 {
			continue
		}
		for _, n := range edges {
			for _, target := range targets {
				checkOperation(t, target, op2(op, temp(0), api.Num{V: valueOf(second, n)}.Expr()))
				checkOperation(t, target, op2(op, api.Num{V: valueOf(first, n)}.Expr(), temp(0)))
			}
		}
	}
}

func checkOperation(t *testing.T, target int, e api.Expr) {
	t.Helper()
	f := api.Func{Name: "f", Sig: sigOf("v"), Temps: 1, Body: []api.Stmt{set(0, e)}}
	made := chosen(t, target, api.Unit{Funcs: []api.Func{f}}).Funcs[0].Body[0].Set().X
	want, ok := asNumber(target, e.Op2())
	if !ok {
		if !reflect.DeepEqual(made, e) {
			t.Errorf("target %d: %s is %s", target, exprText(e), exprText(made))
		}
		return
	}
	if !reflect.DeepEqual(made, want.Expr()) {
		t.Errorf("target %d: %s is %s, not %s", target, exprText(e), exprText(made), exprText(want.Expr()))
	}
	for _, x := range someValues() {
		a, meant := evaluated(e, x)
		b, means := evaluated(made, x)
		if a != b || meant != means {
			t.Errorf("%s of %v: %v, not %v", exprText(made), x, b, a)
		}
	}
}

func someValues() []api.Value {
	list := []api.Value{{}, mach.PtrOf(1, 0), mach.PtrOf(1, 16), mach.PtrOf(2, -8)}
	for _, n := range edges {
		list = append(list, mach.IntOf(int32(n)), mach.LongOf(n), mach.DoubleOf(uint64(n)))
	}
	return list
}

// evaluated is an operation, one of whose operands is a temporary of this value.
func evaluated(e api.Expr, temp api.Value) (api.Value, bool) {
	operand := func(e api.Expr) api.Value {
		if e.Kind == api.KTemp {
			return temp
		}
		return e.V
	}
	if e.Kind == api.KOpI {
		_, kind, _ := mach.Shape(e.A)
		return mach.Eval2(e.A, operand(e.Kids[0]), valueOf(kind, e.N))
	}
	return mach.Eval2(e.A, operand(e.Kids[0]), operand(e.Kids[1]))
}

// P12.1: wherever an operation or an address stands, it becomes what it can be.
func TestNumbersEverywhere(t *testing.T) {
	for _, round := range []func(api.Expr) api.Expr{
		func(e api.Expr) api.Expr { return e },
		func(e api.Expr) api.Expr { return op1(api.OpNot, op2(api.OpMul, e, op2(api.OpSub, e, i32(9)))) },
		func(e api.Expr) api.Expr { return load(api.C32, op1(api.OpLongS, e)) },
		func(e api.Expr) api.Expr { return load(api.C32, behind(op1(api.OpLongU, e), 4)) },
	} {
		for _, e := range []api.Expr{op2(api.OpAdd, i32(3), temp(0)), op2(api.OpSub, temp(0), i32(5000)), op2(api.OpShl, temp(0), op2(api.OpXor, temp(0), i32(1)))} {
			for _, statement := range exprSpots(round(e)) {
				for _, body := range stmtSpots(statement) {
					for _, target := range targets {
						checkSpot(t, target, statement, body)
					}
				}
			}
		}
	}
}

// checkSpot asks whether a statement that stands somewhere in a body becomes what it can be.
func checkSpot(t *testing.T, target int, s api.Stmt, body []api.Stmt) {
	t.Helper()
	made := chosen(t, target, unitWith(api.Func{Name: "f", Temps: 2, Body: body})).Funcs[0].Body
	if want := chosenStmts(target, body); !hasSwitch(body) && !reflect.DeepEqual(made, want) {
		t.Errorf("%s\nis\n%s\nnot\n%s", bodyText(body), bodyText(made), bodyText(want))
	}
	want := bodyText(chosenStmts(target, []api.Stmt{s}))
	if s.Kind == api.KSwitch {
		want = " = " + exprText(chosenExprs(target, s.X)[0])
	}
	if got := bodyText(made); !strings.Contains(got, want) {
		t.Errorf("%s\nis\n%s\nwithout\n%s", bodyText(body), got, want)
	}
}
