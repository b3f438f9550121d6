package graphs

import (
	"fmt"
	"reflect"
	"testing"

	"alembic/api"
	"alembic/fold"
)

// change is what becomes of the last instruction but a return of some code.
type change struct {
	what       string
	code       []api.Instr // ahead of it
	from, want api.Instr
}

// wantChanges asks for what becomes of instructions of a function of the Sig iliv with a frame of 8 bytes, whose registers are iildddill, and whose parameters 0, 2 and 6.
func wantChanges(t *testing.T, rows []change) {
	t.Helper()
	for _, r := range rows {
		f := framed(8, function("f", "iliv", "iildddill", append(append([]api.Instr{}, r.code...), r.from, ret())...))
		f.Params = []int{0, 2, 6}
		p := program(f)
		if faults := faultsOf(p); len(faults) > 0 {
			t.Errorf("%s isn't right: %v", r.what, faults)
		}
		n := len(r.code)
		want := function("f", "v", "", append(append([]api.Instr{}, r.code...), r.want)...).Code
		got := fold.Unit(p).Funcs[0].Code
		if len(got) != n+2 || !reflect.DeepEqual(got[n], want[n]) {
			t.Errorf("%s: %+v, not %+v", r.what, got[n], want[n])
		}
		if !reflect.DeepEqual(got[n+1], ret()) {
			t.Errorf("%s: then %+v", r.what, got[n+1])
		}
	}
}

// P16.4: what is all known becomes a number, but where it has no meaning.
func TestFoldNumbers(t *testing.T) {
	const l = api.OfLong
	numbers := []api.Instr{num(1, i32(7)), num(3, f64(0x3fe0000000000000)), num(7, i64(-7)), num(8, i64(0)), num(6, i32(0))}
	var rows []change
	for _, r := range []struct {
		i api.Instr
		v api.Value
	}{
		{op(0, api.OpMove, 1), i32(7)}, {op(0, api.OpAdd, 1, 1), i32(14)}, {op(0, api.OpNeg, 1), i32(-7)}, {op(0, api.OpDiv, 6, 1), i32(0)}, {op(0, api.OpOr, 1, 6), i32(7)},
		{op(1, api.OpSub, 6, 1), i32(-7)}, {op(2, api.OpMove, 7), i64(-7)}, {op(2, api.OpMul+l, 7, 7), i64(49)}, {op(0, api.OpLt+l, 7, 8), i32(1)}, {op(0, api.OpLtU+l, 7, 8), i32(0)},
		{op(0, api.OpInt, 7), i32(-7)}, {op(2, api.OpLongU, 1), i64(7)}, {op(4, api.OpMove, 3), f64(0x3fe0000000000000)}, {op(4, api.OpAddD, 3, 3), f64(0x3ff0000000000000)}, {op(4, api.OpDblL, 8), f64(0)},
		{op(0, api.OpIntD, 3), i32(0)}, {op(0, api.OpTruth, 7), i32(1)}, {op(0, api.OpTruth, 8), i32(0)}, {op(0, api.OpFalse, 6), i32(1)}, {op(2, api.OpShl+l, 7, 1), i64(-896)},
		{opN(0, api.OpAdd, 1, 1<<32+1), i32(8)}, {opN(0, api.OpMod, 1, -4), i32(3)}, {opN(2, api.OpXor+l, 8, 1<<40), i64(1 << 40)}, {opN(0, api.OpEq+l, 8, 0), i32(1)}, {opN(0, api.OpMul, 1, 8), i32(56)},
		{op(0, api.OpNeD, 3, 3), i32(0)}, {op(0, api.OpShrU, 1, 6), i32(7)},
	} {
		rows = append(rows, change{fmt.Sprintf("%+v", r.i), numbers, r.i, num(r.i.Dst, r.v)})
	}
	for _, i := range []api.Instr{
		op(0, api.OpMod, 1, 6), op(2, api.OpDiv+l, 7, 8), opN(0, api.OpDivU, 1, 0), opN(0, api.OpShl, 1, 32), opN(0, api.OpShr, 1, -1), num(0, i32(3)), num(1, i32(7)),
		nop(), call(0, "int", "ii", 1), call(-1, "show", "iv", 1), global(7, "gi", 0), frame(7, 8), load(0, api.C32, 7, 0), store(api.C32, 7, 0, 1), store(api.CF64, 7, 8, 3),
	} {
		rows = append(rows, change{fmt.Sprintf("%+v", i), numbers, i, i})
	}
	wantChanges(t, rows)
	wantChanges(t, []change{
		{"the least by -1", []api.Instr{num(1, i32(-1<<31)), num(6, i32(-1))}, op(0, api.OpMod, 1, 6), opN(0, api.OpMod, 1, -1)},
		{"a Double beyond", []api.Instr{num(3, f64(0x41e0000000000000))}, op(0, api.OpIntD, 3), op(0, api.OpIntD, 3)},
		{"what isn't a number", []api.Instr{num(3, f64(0x7ff8000000000123)), num(4, f64(0))}, op(5, api.OpMulD, 4, 3), num(5, f64(0x7ff8000000000000))},
		{"what a load answered", []api.Instr{global(7, "gi", 0), load(1, api.C32, 7, 0)}, op(0, api.OpNeg, 1), op(0, api.OpNeg, 1)},
		{"a parameter", nil, op(1, api.OpMove, 0), op(1, api.OpMove, 0)},
		{"a Double with a known one", []api.Instr{num(3, f64(0))}, op(5, api.OpAddD, 4, 3), op(5, api.OpAddD, 4, 3)},
	})
}

// P16.2: operations with a number, shifts, addresses behind others; where they could not mean the same, or nothing could, they stay.
func TestFoldShorter(t *testing.T) {
	const l = api.OfLong
	var rows []change
	for _, r := range []struct {
		v        api.Value // of register 1 or 7
		from, to api.Instr
	}{
		{i32(5), op(6, api.OpAdd, 0, 1), opN(6, api.OpAdd, 0, 5)}, {i32(5), op(6, api.OpAdd, 1, 0), op(6, api.OpAdd, 1, 0)}, {i32(-2048), op(6, api.OpSub, 0, 1), opN(6, api.OpSub, 0, -2048)}, {i32(2047), op(6, api.OpXor, 0, 1), opN(6, api.OpXor, 0, 2047)},
		{i32(-2049), op(6, api.OpSub, 0, 1), op(6, api.OpSub, 0, 1)}, {i32(2048), op(6, api.OpXor, 0, 1), op(6, api.OpXor, 0, 1)}, {i32(3), op(6, api.OpDiv, 0, 1), opN(6, api.OpDiv, 0, 3)}, {i32(-1), op(6, api.OpDiv, 0, 1), opN(6, api.OpDiv, 0, -1)}, {i32(0), op(6, api.OpDiv, 0, 1), op(6, api.OpDiv, 0, 1)},
		{i32(-1), op(6, api.OpLtU, 0, 1), opN(6, api.OpLtU, 0, -1)}, {i32(31), op(6, api.OpShl, 0, 1), opN(6, api.OpShl, 0, 31)}, {i32(32), op(6, api.OpShl, 0, 1), op(6, api.OpShl, 0, 1)}, {i32(-1), op(6, api.OpShr, 0, 1), op(6, api.OpShr, 0, 1)}, {i32(63), op(8, api.OpShl+l, 2, 1), opN(8, api.OpShl+l, 2, 63)}, {i32(64), op(8, api.OpShl+l, 2, 1), op(8, api.OpShl+l, 2, 1)},
		{i64(-2048), op(8, api.OpAdd+l, 2, 7), opN(8, api.OpAdd+l, 2, -2048)}, {i64(-2049), op(8, api.OpAdd+l, 2, 7), op(8, api.OpAdd+l, 2, 7)}, {i64(2047), op(8, api.OpAnd+l, 2, 7), opN(8, api.OpAnd+l, 2, 2047)}, {i64(1<<32 + 5), op(8, api.OpAnd+l, 2, 7), op(8, api.OpAnd+l, 2, 7)}, {i64(0), op(6, api.OpEq+l, 2, 7), opN(6, api.OpEq+l, 2, 0)}, {i64(0), op(8, api.OpMod+l, 2, 7), op(8, api.OpMod+l, 2, 7)},
		{i32(8), op(6, api.OpMul, 0, 1), opN(6, api.OpShl, 0, 3)}, {i32(8), op(6, api.OpMul, 1, 0), opN(6, api.OpShl, 0, 3)}, {i32(1), op(6, api.OpMul, 0, 1), opN(6, api.OpShl, 0, 0)}, {i32(-1 << 31), op(6, api.OpMul, 0, 1), opN(6, api.OpShl, 0, 31)}, {i32(0), op(6, api.OpMul, 0, 1), opN(6, api.OpMul, 0, 0)}, {i32(12), op(6, api.OpMul, 0, 1), opN(6, api.OpMul, 0, 12)}, {i32(-8), op(6, api.OpMul, 0, 1), opN(6, api.OpMul, 0, -8)}, {i32(12), op(6, api.OpMul, 1, 0), op(6, api.OpMul, 1, 0)}, {i32(12000), op(6, api.OpMul, 0, 1), op(6, api.OpMul, 0, 1)},
		{i64(1 << 40), op(8, api.OpMul+l, 2, 7), opN(8, api.OpShl+l, 2, 40)}, {i64(-1 << 63), op(8, api.OpMul+l, 7, 2), opN(8, api.OpShl+l, 2, 63)}, {i64(3), op(8, api.OpMul+l, 2, 7), opN(8, api.OpMul+l, 2, 3)},
		{i64(3), opN(8, api.OpMul+l, 2, 64), opN(8, api.OpShl+l, 2, 6)}, {i64(3), opN(8, api.OpMul+l, 2, 65), opN(8, api.OpMul+l, 2, 65)}, {i32(3), opN(6, api.OpMul, 0, 1<<32+4), opN(6, api.OpShl, 0, 2)}, {i32(3), opN(6, api.OpMul, 0, 1<<32), opN(6, api.OpMul, 0, 1<<32)}, {i32(3), opN(6, api.OpAdd, 0, 4), opN(6, api.OpAdd, 0, 4)},
	} {
		at := 1
		if r.v.Kind == api.Long {
			at = 7
		}
		rows = append(rows, change{fmt.Sprintf("%+v with %v", r.from, r.v), []api.Instr{num(at, r.v)}, r.from, r.to})
	}
	wantChanges(t, rows)
	at := global(7, "ga", 4)
	wantChanges(t, []change{
		{"behind a name", []api.Instr{at}, opN(8, api.OpAdd+l, 7, 8), global(8, "ga", 12)},
		{"ahead of it", []api.Instr{at}, opN(7, api.OpAdd+l, 7, -8), global(7, "ga", -4)},
		{"a known number", []api.Instr{at, num(8, i64(5000))}, op(8, api.OpAdd+l, 7, 8), global(8, "ga", 5004)},
		{"ahead of the address", []api.Instr{at, num(8, i64(5000))}, op(8, api.OpAdd+l, 8, 7), global(8, "ga", 5004)},
		{"behind what is behind", []api.Instr{at, opN(8, api.OpAdd+l, 7, 8), op(7, api.OpMove, 8)}, opN(8, api.OpAdd+l, 7, 8), global(8, "ga", 20)},
		{"a moved address", []api.Instr{at}, op(8, api.OpMove, 7), op(8, api.OpMove, 7)},
		{"the farthest", []api.Instr{at}, opN(8, api.OpAdd+l, 7, 1<<31-5), global(8, "ga", 1<<31-1)},
		{"farther", []api.Instr{at}, opN(8, api.OpAdd+l, 7, 1<<31-4), opN(8, api.OpAdd+l, 7, 1<<31-4)},
		{"farther with a number", []api.Instr{at, num(8, i64(1<<40))}, op(8, api.OpAdd+l, 7, 8), op(8, api.OpAdd+l, 7, 8)},
		{"a round of all numbers", []api.Instr{global(7, "ga", 1<<63-1), num(8, i64(-1<<63))}, op(8, api.OpAdd+l, 7, 8), global(8, "ga", -1)},
		{"a subtraction", []api.Instr{at}, opN(8, api.OpSub+l, 7, 4), opN(8, api.OpSub+l, 7, 4)},
		{"a number that isn't known", []api.Instr{at}, op(8, api.OpAdd+l, 7, 2), op(8, api.OpAdd+l, 7, 2)},
		{"two addresses", []api.Instr{at}, op(8, api.OpAdd+l, 7, 7), op(8, api.OpAdd+l, 7, 7)},
		{"an address of the frame", []api.Instr{frame(7, 0)}, opN(8, api.OpAdd+l, 7, 4), opN(8, api.OpAdd+l, 7, 4)},
		{"another operation", []api.Instr{at}, opN(6, api.OpEq+l, 7, 0), opN(6, api.OpEq+l, 7, 0)},
		{"whether it is true", []api.Instr{at}, op(6, api.OpTruth, 7), op(6, api.OpTruth, 7)},
	})
}

// P16.2: known tests, and what is behind them.
func TestFoldTests(t *testing.T) {
	one := func(code ...api.Instr) []api.Instr { return function("f", "v", "", code...).Code }
	for _, r := range []struct {
		what       string
		code, want []api.Instr
	}{
		{"true", one(num(0, i32(-5)), cond(0, 2, 3), ret(0), ret(0)), one(num(0, i32(-5)), nop(), ret(0), ret(0))},
		{"false", one(num(0, i32(0)), cond(0, 2, 3), ret(0), ret(0)), one(num(0, i32(0)), to(3, nop()), ret(0), ret(0))},
		{"not known", one(cond(0, 1, 2), ret(0), ret(0)), one(cond(0, 1, 2), ret(0), ret(0))},
		{"worked out", one(num(0, i32(3)), opN(1, api.OpLt, 0, 4), cond(1, 3, 4), ret(0), ret(1)), one(num(0, i32(3)), num(1, i32(1)), nop(), ret(0), ret(1))},
		{"what meets behind it is known from one way", one(num(0, i32(3)), cond(0, 2, 3), to(4, num(1, i32(2))), num(1, i32(4)), opN(1, api.OpAdd, 1, 1), ret(1)), one(num(0, i32(3)), nop(), to(4, num(1, i32(2))), num(1, i32(4)), num(1, i32(3)), ret(1))},
		{"and another test with it", one(num(0, i32(0)), cond(0, 2, 3), to(4, num(0, i32(5))), num(0, i32(6)), cond(0, 5, 6), to(7, num(0, i32(7))), num(0, i32(8)), opN(1, api.OpAdd, 0, 1), ret(1)), one(num(0, i32(0)), to(3, nop()), to(4, num(0, i32(5))), num(0, i32(6)), nop(), to(7, num(0, i32(7))), num(0, i32(8)), num(1, i32(8)), ret(1))},
		{"where it doesn't go on, it is worked out nevertheless", one(num(0, i32(1)), cond(0, 4, 2), op(1, api.OpAdd, 0, 0), ret(1), ret(0)), one(num(0, i32(1)), to(4, nop()), num(1, i32(2)), ret(1), ret(0))},
		{"a loop that lets it stay", one(num(0, i32(1)), cond(0, 2, 5), opN(1, api.OpEq, 0, 1), cond(1, 1, 4), to(1, num(0, i32(0))), ret(0)), one(num(0, i32(1)), nop(), num(1, i32(1)), to(1, nop()), to(1, num(0, i32(0))), ret(0))},
		{"a loop that doesn't", one(num(0, i32(1)), cond(0, 2, 4), opN(0, api.OpSub, 0, 1), to(1, nop()), ret(0)), one(num(0, i32(1)), cond(0, 2, 4), opN(0, api.OpSub, 0, 1), to(1, nop()), ret(0))},
		{"both ways to one", one(num(0, i32(1)), cond(0, 2, 2), ret(0)), one(num(0, i32(1)), nop(), ret(0))},
		{"the document's example", one(num(0, i32(2)), num(1, i32(3)), op(0, api.OpMul, 0, 1), opN(0, api.OpAdd, 0, 4), ret(0)), one(num(0, i32(2)), num(1, i32(3)), num(0, i32(6)), num(0, i32(10)), ret(0))},
		{"what no way leads to", one(ret(0), num(0, i32(1)), op(1, api.OpAdd, 0, 0), cond(0, 1, 0)), one(ret(0), num(0, i32(1)), op(1, api.OpAdd, 0, 0), cond(0, 1, 0))},
	} {
		f := function("f", "i", "ii")
		f.Code = r.code
		if faults := faultsOf(program(f)); len(faults) > 0 {
			t.Errorf("%s isn't right: %v", r.what, faults)
		}
		if got := fold.Unit(program(f)).Funcs[0].Code; !reflect.DeepEqual(got, r.want) {
			t.Errorf("%s: %+v\nnot %+v", r.what, got, r.want)
		}
	}
}

// foldFaults tells what the document doesn't allow in what became of an instruction, ahead of which this is known.
func foldFaults(f api.Graph, n int, ahead known, got api.Instr) string {
	i := f.Code[n]
	if reflect.DeepEqual(i, got) {
		switch v, ok := answerOf(i, ahead); {
		case i.Kind == api.IOp && i.Op != api.OpNum && ok:
			return fmt.Sprintf("it is known: %v", v)
		case i.Kind == api.ICond && len(ahead) > 0:
			if v, ok := ahead[i.Args[0]]; ok {
				return fmt.Sprintf("it is known: %v", v)
			}
		}
		return ""
	}
	switch {
	case i.Kind == api.ICond:
		if got.Kind != api.INop || got.Next != i.Next && got.Next != i.Else {
			return "a test became something else"
		}
	case i.Kind != api.IOp || got.Kind != api.IOp || got.Next != i.Next || got.Dst != i.Dst:
		return "it goes on elsewhere, or sets another register, or is something else"
	case got.Op != api.OpNum && got.Op != api.OpGlobal && got.Op < api.WithN:
		return "it became another operation"
	}
	return ""
}

// P16.2, P16.4: of grown functions each instruction becomes what the document has it be, or stays where that leaves it open; what is answered has nothing more to fold.
func TestFoldGrown(t *testing.T) {
	var stay, nums, nops, others int
	for seed := range 2000 {
		_, p := grownProgram(seed)
		made := fold.Unit(p)
		for k, f := range p.Funcs {
			got := made.Funcs[k]
			if got.Entry != f.Entry || len(got.Code) != len(f.Code) || !reflect.DeepEqual(got.Kinds, f.Kinds) {
				t.Fatalf("seed %d, %s: %+v", seed, f.Name, got)
			}
			before, behind := leastKnown(f), leastKnown(got)
			for n, i := range got.Code {
				if fault := foldFaults(f, n, before[n], i); fault != "" {
					t.Errorf("seed %d, %s, instruction %d: %+v became %+v: %s", seed, f.Name, n, f.Code[n], i, fault)
				}
				if fault := foldFaults(got, n, behind[n], i); fault != "" {
					t.Errorf("seed %d, %s, instruction %d: %+v is left: %s", seed, f.Name, n, i, fault)
				}
				switch {
				case reflect.DeepEqual(i, f.Code[n]):
					stay++
				case i.Op == api.OpNum:
					nums++
				case i.Kind == api.INop:
					nops++
				default:
					others++
				}
			}
		}
		if !reflect.DeepEqual(fold.Unit(made), made) {
			t.Errorf("seed %d: done twice it is something else", seed)
		}
		if t.Failed() {
			t.FailNow()
		}
	}
	if min(nums, nops*2, others*10) < 15000 {
		t.Errorf("%d stay, %d are numbers, %d nothing, %d something else", stay, nums, nops, others)
	}
}

// P16.4: very many registers that are known, set again on very many ways within a loop: each second one to another number.
func TestFoldOfMuch(t *testing.T) {
	const n = 20000
	var code []api.Instr
	for i := range n {
		code = append(code, num(i, i32(int32(i))))
	}
	for i := range n {
		at := len(code)
		code = append(code, cond(n, at+1, at+2), num(i, i32(int32(i+i%2))))
	}
	code = append(code, cond(n, n, len(code)+1))
	behind := len(code)
	for i := range n {
		code = append(code, op(n+1, api.OpNeg, i))
	}
	f := function("f", "iv", "", append(code, ret())...)
	f.Params = []int{n}
	for range n + 2 {
		f.Kinds = append(f.Kinds, api.Int)
	}
	got := fold.Unit(program(f)).Funcs[0].Code
	for i := range n {
		want := f.Code[behind+i]
		if i%2 == 0 {
			want.Op, want.Args, want.V = api.OpNum, nil, i32(int32(-i))
		}
		if !reflect.DeepEqual(got[behind+i], want) {
			t.Fatalf("register %d: %+v, not %+v", i, got[behind+i], want)
		}
	}
}
