package graphs

import (
	"testing"

	"alembic/api"
	"alembic/rtl"
)

// P15.1: the document's example, and what an end is.
func TestEnds(t *testing.T) {
	wantAll(t, []row{
		{"a number", mainOf("i", num(0, i32(3)), ret(0)), nil, "exited 3 [2]"},
		{"the least number", mainOf("i", num(0, i32(-1<<31)), ret(0)), nil, "exited -2147483648 [2]"},
		{"nothing", mainOf("", ret()), nil, "wrong [1]"},
		{"what was never set", mainOf("i", ret(0)), nil, "wrong [1]"},
		{"no main", program(function("f", "i", "i", num(0, i32(3)), ret(0))), nil, "wrong [0]"},
		{"no function", program(), nil, "wrong [0]"},
		{"a main from outside", api.Graphs{Externs: []api.Extern{{Name: "main", Sig: sigOf("i")}}}, nil, "wrong [0]"},
		{"a main that is a variable", api.Graphs{Vars: []api.Var{{Name: "main", Size: 8}}}, nil, "wrong [0]"},
		{"a main that has a Long", program(function("main", "l", "l", num(0, i64(3)), ret(0))), nil, "wrong [2]"},
		{"a main that has a Double", program(function("main", "d", "d", num(0, f64(0)), ret(0))), nil, "wrong [2]"},
		{"a main that has nothing", program(function("main", "v", "", ret())), nil, "wrong [1]"},
		{"a main that has a parameter", program(function("main", "ii", "i", ret(0))), nil, "wrong [0]"},
		{"a round", mainOf("", to(0, nop())), nil, "running [65536]"},
		{"it begins at Entry", func() api.Graphs {
			g := mainOf("i", ret(0), to(0, num(0, i32(4))), to(1, nop()))
			g.Funcs[0].Entry = 2
			return g
		}(), nil, "exited 4 [3]"},
	})
}

// P15.1: a step is taken ahead of each instruction, and nowhere else.
func TestSteps(t *testing.T) {
	f := function("f", "ii", "ii", op(1, api.OpAdd, 0, 0), ret(1))
	g := program(function("main", "i", "i", num(0, i32(3)), call(0, "f", "ii", 0), call(0, "int", "ii", 0), ret(0)), f)
	for fuel, want := range map[int]string{-1 << 63: "running [0]", -1: "running [0]", 0: "running [0]", 1: "running [1]", 2: "running [2]", 3: "running [3]", 4: "running [4]", 5: "int(6) = 8; running [5]", 6: "int(6) = 8; exited 8 [6]", 7: "int(6) = 8; exited 8 [6]", 1 << 40: "int(6) = 8; exited 8 [6]"} {
		if got := shown(rtl.Run(g, []int64{8}, fuel)); got != want {
			t.Errorf("fuel %d: %s, not %s", fuel, got, want)
		}
	}
	for _, fuel := range []int{api.MaxFuel - 1, api.MaxFuel, api.MaxFuel + 1, 1 << 62} {
		if o := rtl.Run(mainOf("", to(0, nop())), nil, fuel); o.Steps != min(fuel, api.MaxFuel) || o.Status != api.Running {
			t.Errorf("fuel %d: %s", fuel, shown(o))
		}
	}
	// without fuel not even what has no meaning is done
	if got := shown(rtl.Run(mainOf("ii", op(0, api.OpNeg, 1), ret(0)), nil, 0)); got != "running [0]" {
		t.Error(got)
	}
	if got := shown(rtl.Run(mainOf("ii", op(0, api.OpNeg, 1), ret(0)), nil, 1)); got != "wrong [1]" {
		t.Error(got)
	}
}

// asInt ends a main with the Int that a Long has.
func asInt(from int) []api.Instr { return []api.Instr{op(0, api.OpInt, from), ret(0)} }

// long is a program whose main works something out in register 2, a Long, of which register 0 is the Int.
func long(code ...api.Instr) api.Graphs { return mainOf("illlld", append(code, asInt(2)...)...) }

// P15.1: what operations put into their Dst.
func TestOperations(t *testing.T) {
	wantAll(t, []row{
		{"a move", mainOf("ii", num(1, i32(7)), op(0, api.OpMove, 1), ret(0)), nil, "exited 7 [3]"},
		{"a move of what is undefined has a meaning", mainOf("ii", op(1, api.OpMove, 0), num(0, i32(7)), ret(0)), nil, "exited 7 [3]"},
		{"and makes undefined", mainOf("ii", num(1, i32(7)), op(1, api.OpMove, 0), ret(1)), nil, "wrong [3]"},
		{"one", mainOf("ii", num(1, i32(7)), op(0, api.OpNeg, 1), ret(0)), nil, "exited -7 [3]"},
		{"one of what is undefined", mainOf("ii", op(0, api.OpNeg, 1), num(0, i32(7)), ret(0)), nil, "wrong [1]"},
		{"two", mainOf("iii", num(1, i32(7)), num(2, i32(9)), op(0, api.OpSub, 1, 2), ret(0)), nil, "exited -2 [4]"},
		{"two that are one", mainOf("i", num(0, i32(7)), op(0, api.OpMul, 0, 0), ret(0)), nil, "exited 49 [3]"},
		{"two without a meaning", mainOf("iii", num(1, i32(7)), num(2, i32(0)), op(0, api.OpDiv, 1, 2), ret(0)), nil, "wrong [3]"},
		{"with a number", mainOf("ii", num(1, i32(7)), opN(0, api.OpSub, 1, 9), ret(0)), nil, "exited -2 [3]"},
		{"with a number whose lowest bits are an Int's", mainOf("ii", num(1, i32(7)), opN(0, api.OpSub, 1, 1<<32+9), ret(0)), nil, "exited -2 [3]"},
		{"with a negative number", mainOf("ii", num(1, i32(7)), opN(0, api.OpGtU, 1, -1), ret(0)), nil, "exited 0 [3]"},
		{"with a number without a meaning", mainOf("ii", num(1, i32(7)), opN(0, api.OpShl, 1, 32), ret(0)), nil, "wrong [2]"},
		{"with 0 divided", mainOf("ii", num(1, i32(7)), opN(0, api.OpModU, 1, 0), ret(0)), nil, "wrong [2]"},
		{"Long with a number", long(num(1, i64(1<<40)), opN(2, api.OpShr+api.OfLong, 1, 38)), nil, "exited 4 [4]"},
		{"Long with a great number", long(num(1, i64(3)), opN(2, api.OpSub+api.OfLong, 1, 1<<40+1)), nil, "exited 2 [4]"},
		{"a Double", mainOf("iddd", num(1, f64(0x3ff8000000000000)), num(2, f64(0x4000000000000000)), op(3, api.OpMulD, 1, 2), op(0, api.OpIntD, 3), ret(0)), nil, "exited 3 [5]"},
		{"what isn't a number", mainOf("idd", num(1, f64(0x7ff8000000000000)), op(0, api.OpNeD, 1, 1), ret(0)), nil, "exited 1 [3]"},
		{"whether a Long is true", mainOf("il", num(1, i64(1<<40)), op(0, api.OpTruth, 1), ret(0)), nil, "exited 1 [3]"},
		{"whether it isn't", mainOf("il", num(1, i64(1<<40)), op(0, api.OpFalse, 1), ret(0)), nil, "exited 0 [3]"},
		{"whether an address is true", mainOf("il", global(1, "gi", 0), op(0, api.OpTruth, 1), ret(0)), nil, "exited 1 [3]"},
		{"whether what is undefined is", mainOf("il", op(0, api.OpTruth, 1), ret(0)), nil, "wrong [1]"},
		{"an address that is held against 0", mainOf("il", frame(1, 16), opN(0, api.OpEq+api.OfLong, 1, 0), ret(0)), nil, "exited 0 [3]"},
		{"addresses of unlike blocks", mainOf("ill", frame(1, 0), global(2, "gi", 0), op(0, api.OpNe+api.OfLong, 1, 2), ret(0)), nil, "exited 1 [4]"},
		{"and beyond one", mainOf("ill", frame(1, 16), global(2, "gi", 0), op(0, api.OpNe+api.OfLong, 1, 2), ret(0)), nil, "wrong [3]"},
		{"bytes between", long(frame(1, 12), frame(3, 4), op(2, api.OpSub+api.OfLong, 1, 3)), nil, "exited 8 [5]"},
		{"bytes of a variable", long(global(1, "ga", -8), global(3, "ga", 1<<40), op(2, api.OpSub+api.OfLong, 1, 3)), nil, "exited -8 [5]"},
	})
}

// P15.1: what stands in memory.
func TestAccesses(t *testing.T) {
	wantAll(t, []row{
		{"a variable", mainOf("il", global(1, "gi", 0), load(0, api.C32, 1, 0), ret(0)), nil, "exited 5 [3]"},
		{"behind its beginning", mainOf("il", global(1, "ga", 4), load(0, api.C32, 1, 0), ret(0)), nil, "exited -3 [3]"},
		{"bytes behind", mainOf("il", global(1, "ga", 0), load(0, api.C32, 1, 4), ret(0)), nil, "exited -3 [3]"},
		{"bytes ahead", mainOf("il", global(1, "ga", 8), load(0, api.C32, 1, -4), ret(0)), nil, "exited -3 [3]"},
		{"all else of it is 0", mainOf("il", global(1, "ga", 0), load(0, api.C32, 1, 12), ret(0)), nil, "exited 0 [3]"},
		{"beyond it", mainOf("il", global(1, "ga", 0), load(0, api.C32, 1, 16), ret(0)), nil, "wrong [2]"},
		{"a round of all numbers", mainOf("il", global(1, "ga", 8), load(0, api.C32, 1, -1<<63), ret(0)), nil, "wrong [2]"},
		{"between two", mainOf("il", global(1, "ga", 0), load(0, api.C32, 1, 2), ret(0)), nil, "wrong [2]"},
		{"a byte by its sign", mainOf("il", global(1, "ga", 7), load(0, api.C8S, 1, 0), ret(0)), nil, "exited -1 [3]"},
		{"and without", mainOf("il", global(1, "ga", 7), load(0, api.C8U, 1, 0), ret(0)), nil, "exited 255 [3]"},
		{"at a number", mainOf("il", num(1, i64(0)), load(0, api.C32, 1, 0), ret(0)), nil, "wrong [2]"},
		{"at what is undefined", mainOf("il", load(0, api.C32, 1, 0), ret(0)), nil, "wrong [1]"},
		{"a store", mainOf("iil", global(2, "ga", 0), num(1, i32(6)), store(api.C32, 2, 8, 1), load(0, api.C32, 2, 8), ret(0)), nil, "exited 6 [5]"},
		{"a store beyond", mainOf("iil", global(2, "ga", 0), num(1, i32(6)), store(api.C32, 2, -4, 1), ret(1)), nil, "wrong [3]"},
		{"a store into what is fixed", mainOf("iil", global(2, "text", 0), num(1, i32(6)), store(api.C8S, 2, 0, 1), ret(1)), nil, "wrong [3]"},
		{"a load of what is fixed", mainOf("iil", global(2, "text", 0), load(1, api.C8S, 2, 1), ret(1)), nil, "exited 105 [3]"},
		{"the frame", mainOf("iil", frame(2, 8), num(1, i32(6)), store(api.C32, 2, 4, 1), frame(2, 0), load(0, api.C32, 2, 12), ret(0)), nil, "exited 6 [6]"},
		{"an empty frame", mainOf("iil", frame(2, 8), load(0, api.C32, 2, 0), ret(0)), nil, "wrong [3]"},
		{"is loaded with a meaning", mainOf("iil", frame(2, 8), load(0, api.C32, 2, 0), num(0, i32(1)), ret(0)), nil, "exited 1 [4]"},
		{"beyond the frame", mainOf("iil", frame(2, 16), load(0, api.C32, 2, 0), ret(0)), nil, "wrong [2]"},
		{"a store of what is undefined", mainOf("iil", global(2, "gi", 0), store(api.C32, 2, 0, 1), load(1, api.C32, 2, 0), num(1, i32(1)), ret(1)), nil, "exited 1 [5]"},
		{"makes undefined", mainOf("iil", global(2, "gi", 0), store(api.C32, 2, 0, 1), load(1, api.C32, 2, 0), ret(1)), nil, "wrong [4]"},
		{"an address that is stored", mainOf("ilil", global(1, "gl", 0), frame(3, 4), store(api.C64, 1, 0, 3), num(0, i32(6)), store(api.C32, 3, 0, 0), load(3, api.C64, 1, 0), load(2, api.C32, 3, 0), ret(2)), nil, "exited 6 [8]"},
		{"a Double", mainOf("idld", global(2, "gd", 0), num(1, f64(0x4014000000000000)), store(api.CF64, 2, 0, 1), load(3, api.CF64, 2, 0), op(0, api.OpIntD, 3), ret(0)), nil, "exited 5 [6]"},
		{"a Double's bits", long(global(1, "gd", 0), num(5, f64(1<<63)), store(api.CF64, 1, 0, 5), load(2, api.C64, 1, 0), opN(2, api.OpShrU+api.OfLong, 2, 60)), nil, "exited 8 [7]"},
		{"an address that is 0", mainOf("il", global(1, "gl", 0), load(1, api.C64, 1, 0), op(0, api.OpFalse, 1), ret(0)), nil, "exited 1 [4]"},
	})
}

// P15.1: where code goes on.
func TestWays(t *testing.T) {
	which := func(n int32) api.Graphs {
		return mainOf("ii", num(0, i32(n)), cond(0, 2, 4), num(1, i32(10)), ret(1), num(1, i32(20)), ret(1))
	}
	wantAll(t, []row{
		{"true", which(1), nil, "exited 10 [4]"},
		{"false", which(0), nil, "exited 20 [4]"},
		{"true, too", which(-1 << 31), nil, "exited 10 [4]"},
		{"a test of what is undefined", mainOf("i", cond(0, 1, 1), num(0, i32(1)), ret(0)), nil, "wrong [1]"},
		{"both ways to one", mainOf("i", num(0, i32(1)), cond(0, 2, 2), ret(0)), nil, "exited 1 [3]"},
		{"a loop", mainOf("ii", num(0, i32(5)), num(1, i32(0)), cond(0, 3, 5), op(1, api.OpAdd, 1, 0), to(2, opN(0, api.OpAdd, 0, -1)), ret(1)), nil, "exited 15 [19]"},
	})
}

// P15.1: functions of the program.
func TestCalls(t *testing.T) {
	sub := function("f", "iii", "iii", op(2, api.OpSub, 0, 1), ret(2))
	turned := sub
	turned.Params = []int{1, 0}
	fresh := function("f", "ii", "iii", cond(0, 1, 3), num(1, i32(4)), to(5, nop()), num(2, i32(1)), call(-1, "f", "ii", 2), ret(1))
	void := function("f", "v", "", ret())
	rec := function("f", "ii", "iii", cond(0, 2, 1), ret(0), opN(1, api.OpSub, 0, 1), call(2, "f", "ii", 1), op(2, api.OpAdd, 2, 0), ret(2))
	ask := func(f api.Graph, result, sig string, args ...int) api.Graphs {
		return program(function("main", "i", "iil"+result, num(0, i32(7)), num(1, i32(9)), global(2, "gi", 0), call(3, "f", sig, args...), ret(3)), f)
	}
	wantAll(t, []row{
		{"two parameters", ask(sub, "i", "iii", 0, 1), nil, "exited -2 [7]"},
		{"in any registers", ask(turned, "i", "iii", 0, 1), nil, "exited 2 [7]"},
		{"one for both", ask(sub, "i", "iii", 1, 1), nil, "exited 0 [7]"},
		{"a parameter that is undefined", ask(sub, "i", "iii", 0, 3), nil, "wrong [5]"},
		{"other registers are undefined", ask(fresh, "i", "ii", 0), nil, "exited 4 [9]"},
		{"whatever another call set", program(function("main", "i", "ii", num(0, i32(7)), call(-1, "f", "ii", 0), num(0, i32(0)), call(1, "f", "ii", 0), ret(1)), function("f", "ii", "ii", cond(0, 1, 2), num(1, i32(4)), ret(1))), nil, "wrong [10]"},
		{"no result", ask(function("f", "ii", "i", ret()), "i", "ii", 0), nil, "wrong [6]"},
		{"a Dst that had another", program(function("main", "i", "i", num(0, i32(7)), call(0, "f", "i"), ret(0)), function("f", "i", "", ret())), nil, "wrong [4]"},
		{"a result that nobody asks for", program(function("main", "i", "i", num(0, i32(7)), call(-1, "f", "i"), ret(0)), function("f", "i", "i", num(0, i32(8)), ret(0))), nil, "exited 7 [5]"},
		{"a function that has none", program(function("main", "i", "i", num(0, i32(7)), call(-1, "f", "v"), ret(0)), void), nil, "exited 7 [4]"},
		{"a call by another Sig", program(function("main", "i", "i", call(0, "f", "i"), ret(0)), void), nil, "wrong [1]"},
		{"with other parameters", program(function("main", "i", "il", num(1, i64(1)), call(0, "f", "li", 1), ret(0)), function("f", "ii", "i", ret(0))), nil, "wrong [2]"},
		{"a call within itself", ask(rec, "i", "ii", 0), nil, "exited 28 [42]"},
		{"main within itself", program(function("main", "i", "il", global(1, "gi", 0), load(0, api.C32, 1, 0), cond(0, 3, 6), opN(0, api.OpSub, 0, 1), store(api.C32, 1, 0, 0), call(0, "main", "i"), ret(0))), nil, "exited 0 [39]"},
		{"by its address", program(function("main", "i", "ill", global(1, "f", 0), num(0, i32(3)), call(0, "", "ii", 1, 0), ret(0)), function("f", "ii", "ii", opN(1, api.OpMul, 0, 5), ret(1))), nil, "exited 15 [6]"},
		{"by an address in memory", program(function("main", "i", "ill", global(1, "fp", 0), num(0, i32(3)), load(2, api.C64, 1, 0), call(0, "", "ii", 2, 0), ret(0)), function("f", "ii", "ii", opN(1, api.OpMul, 0, 5), ret(1))), nil, "exited 15 [7]"},
		{"behind its address", program(function("main", "i", "ill", global(1, "f", 1), num(0, i32(3)), call(0, "", "ii", 1, 0), ret(0)), function("f", "ii", "i", ret(0))), nil, "wrong [3]"},
		{"by a variable's address", mainOf("il", global(1, "gi", 0), call(0, "", "i", 1), ret(0)), nil, "wrong [2]"},
		{"by a number", mainOf("il", num(1, i64(8)), call(0, "", "i", 1), ret(0)), nil, "wrong [2]"},
		{"by nothing", mainOf("il", call(0, "", "i", 1), ret(0)), nil, "wrong [1]"},
		{"by its address with another Sig", program(function("main", "i", "il", global(1, "f", 0), call(0, "", "i", 1), ret(0)), void), nil, "wrong [2]"},
	})
}

// P15.1, P15.2: functions from outside.
func TestOutside(t *testing.T) {
	wantAll(t, []row{
		{"an answer", mainOf("ii", num(1, i32(7)), call(0, "int", "ii", 1), ret(0)), []int64{1<<32 + 2}, "int(7) = 2; exited 2 [3]"},
		{"no answer left", mainOf("ii", num(1, i32(7)), call(0, "int", "ii", 1), call(0, "int", "ii", 0), ret(0)), []int64{3}, "int(7) = 3; int(3) = 0; exited 0 [4]"},
		{"a Long", long(num(1, i64(-1)), call(2, "long", "ll", 1)), []int64{1<<40 + 5}, "long(-1L) = 1099511627781L; exited 5 [4]"},
		{"a Double", mainOf("id", num(1, f64(1)), call(1, "double", "dd", 1), op(0, api.OpIntD, 1), ret(0)), []int64{5}, "double(0x0000000000000001) = 0x4014000000000000; exited 5 [4]"},
		{"no result", mainOf("i", num(0, i32(7)), call(-1, "show", "iv", 0), call(-1, "stop", "v"), ret(0)), []int64{5}, "show(7); stop(); exited 7 [4]"},
		{"a result that nobody asks for", mainOf("i", num(0, i32(7)), call(-1, "int", "ii", 0), ret(0)), []int64{5}, "int(7) = 5; exited 7 [3]"},
		{"an argument that is undefined", mainOf("i", call(-1, "show", "iv", 0), ret(0)), nil, "wrong [1]"},
		{"an argument that is an address", mainOf("il", global(1, "gi", 0), call(-1, "long", "ll", 1), ret(0)), nil, "wrong [2]"},
		{"another Sig", mainOf("i", num(0, i32(7)), call(-1, "int", "iv", 0), ret(0)), nil, "wrong [2]"},
		{"by its address", mainOf("il", num(0, i32(7)), global(1, "int", 0), call(0, "", "ii", 1, 0), ret(0)), []int64{5}, "int(7) = 5; exited 5 [4]"},
		{"what was shown ahead of going wrong", mainOf("ii", num(0, i32(7)), call(-1, "show", "iv", 0), call(-1, "show", "iv", 1), ret(0)), nil, "show(7); wrong [3]"},
	})
}

// P15.1: calls whose result is returned; the frame is freed ahead of them.
func TestTails(t *testing.T) {
	at := function("at", "li", "li", load(1, api.C32, 0, 0), ret(1))
	here := func(last ...api.Instr) api.Graphs {
		code := append([]api.Instr{frame(1, 8), num(0, i32(6)), store(api.C32, 1, 0, 0)}, last...)
		return program(framed(16, function("main", "i", "il", code...)), at)
	}
	count := function("f", "iii", "iiii", cond(0, 2, 1), ret(1), opN(2, api.OpSub, 0, 1), op(3, api.OpAdd, 1, 0), tail("f", "iii", 2, 3))
	wantAll(t, []row{
		{"a frame that is still there", here(call(0, "at", "li", 1), ret(0)), nil, "exited 6 [7]"},
		{"a frame that was freed", here(tail("at", "li", 1)), nil, "wrong [5]"},
		{"an address of it has a meaning as it is", program(framed(16, function("main", "i", "l", frame(0, 8), tail("f", "li", 0))), function("f", "li", "li", num(1, i32(1)), ret(1))), nil, "exited 1 [4]"},
		{"a function from outside", mainOf("i", num(0, i32(7)), tail("int", "ii", 0)), []int64{4}, "int(7) = 4; exited 4 [2]"},
		{"from within", program(function("main", "i", "ii", num(0, i32(7)), call(0, "f", "ii", 0), opN(1, api.OpAdd, 0, 1), ret(1)), function("f", "ii", "i", tail("int", "ii", 0))), []int64{4}, "int(7) = 4; exited 5 [5]"},
		{"one behind the other", program(function("main", "i", "ii", num(0, i32(7)), call(1, "f", "ii", 0), op(1, api.OpAdd, 1, 0), ret(1)), function("f", "ii", "ii", opN(1, api.OpMul, 0, 2), tail("h", "ii", 1)), function("h", "ii", "ii", opN(1, api.OpAdd, 0, 1), ret(1))), nil, "exited 22 [8]"},
		{"by an address", program(function("main", "i", "il", num(0, i32(7)), global(1, "f", 0), tail("", "ii", 1, 0)), function("f", "ii", "ii", opN(1, api.OpMul, 0, 2), ret(1))), nil, "exited 14 [5]"},
		{"by none", mainOf("il", global(1, "gi", 0), tail("", "i", 1)), nil, "wrong [2]"},
		{"another Sig", program(function("main", "i", "", tail("f", "i")), function("f", "v", "", ret())), nil, "wrong [1]"},
		{"without a result", program(function("main", "i", "i", call(-1, "f", "v"), num(0, i32(1)), ret(0)), function("f", "v", "", tail("stop", "v"))), nil, "stop(); exited 1 [4]"},
		{"very many", program(function("main", "i", "ii", num(0, i32(10000)), num(1, i32(0)), tail("f", "iii", 0, 1)), count), nil, "exited 50005000 [40005]"},
		{"a round", program(function("main", "i", "", tail("main", "i"))), nil, "running [65536]"},
	})
}

// P15.1: MaxCalls is no limit here.
func TestDeepCalls(t *testing.T) {
	deep := function("f", "ii", "ii", cond(0, 2, 1), ret(0), opN(1, api.OpSub, 0, 1), call(1, "f", "ii", 1), opN(1, api.OpAdd, 1, 3), ret(1))
	framed := framed(api.MaxFrame, function("f", "ii", "iil", cond(0, 2, 1), ret(0), frame(2, api.MaxFrame-4), store(api.C32, 2, 0, 0), opN(1, api.OpSub, 0, 1), call(1, "f", "ii", 1), load(0, api.C32, 2, 0), op(1, api.OpAdd, 1, 0), ret(1)))
	wantAll(t, []row{
		{"deep", program(function("main", "i", "i", num(0, i32(13000)), call(0, "f", "ii", 0), ret(0)), deep), nil, "exited 39000 [65005]"},
		{"with great frames", program(function("main", "i", "i", num(0, i32(5000)), call(0, "f", "ii", 0), ret(0)), framed), nil, "exited 12502500 [40005]"},
		{"without an end", program(function("main", "i", "i", call(0, "main", "i"), ret(0))), nil, "running [65536]"},
	})
}

// P15.1: variables at the beginning.
func TestVariables(t *testing.T) {
	ask := func(vars ...api.Var) api.Graphs {
		g := mainOf("il", global(1, "x", 0), load(0, api.C32, 1, 0), ret(0))
		g.Vars = vars
		return g
	}
	far := ask(api.Var{Name: "x", Size: 4096, Fixed: true, Init: []api.Datum{{Chunk: api.C32, V: i32(7)}}})
	far.Funcs[0].Code[1].Off = 2048
	init := func(at, chunk int, v api.Value) []api.Datum { return []api.Datum{{At: at, Chunk: chunk, V: v}} }
	wantAll(t, []row{
		{"0", ask(api.Var{Name: "x", Size: 4}), nil, "exited 0 [3]"},
		{"a number", ask(api.Var{Name: "x", Size: 4, Init: init(0, api.C32, i32(-9))}), nil, "exited -9 [3]"},
		{"a byte", ask(api.Var{Name: "x", Size: 4, Init: init(1, api.C8S, i32(1))}), nil, "exited 256 [3]"},
		{"a fixed one", ask(api.Var{Name: "x", Size: 4, Fixed: true, Init: init(0, api.C16S, i32(5))}), nil, "exited 5 [3]"},
		{"a great one", ask(api.Var{Name: "x", Size: api.MaxSize, Init: init(0, api.C16S, i32(5))}), nil, "exited 5 [3]"},
		{"far in a fixed one", far, nil, "exited 0 [3]"},
		{"beyond it", ask(api.Var{Name: "x", Size: 4, Init: init(4, api.C32, i32(-9))}), nil, "wrong [0]"},
		{"of another kind", ask(api.Var{Name: "x", Size: 4, Init: init(0, api.C32, i64(1))}), nil, "wrong [0]"},
		{"an address", ask(api.Var{Name: "x", Size: 8, Init: []api.Datum{{Chunk: api.C64, Sym: "main"}}}), nil, "wrong [3]"},
		{"too small", ask(api.Var{Name: "x", Size: 3}), nil, "wrong [2]"},
	})
}
