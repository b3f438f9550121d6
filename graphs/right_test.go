package graphs

import (
	"math"
	"reflect"
	"slices"
	"strings"
	"testing"

	"alembic/api"
	"alembic/rtl"
)

// sampler is a program with an instruction of each form.
func sampler() api.Graphs {
	all := function("all", "ildi", "ildildil",
		nop(), num(3, i32(-1)), num(4, i64(-1)), num(5, f64(1)), op(6, api.OpMove, 3), op(7, api.OpMove, 4), op(2, api.OpMove, 5),
		global(4, "gi", 3), global(4, "show", 0), global(4, "all", -9), frame(4, 0), frame(4, 16),
		op(6, api.OpTruth, 3), op(6, api.OpFalse, 4), op(6, api.OpNeg, 3), op(7, api.OpNot+api.OfLong, 4), op(5, api.OpNegD, 2), op(6, api.OpS8, 3), op(7, api.OpLongU, 3), op(6, api.OpInt, 4), op(5, api.OpDblL, 7), op(7, api.OpUlongD, 5), op(3, api.OpUintD, 5),
		op(6, api.OpAdd, 3, 0), op(7, api.OpSub+api.OfLong, 4, 1), op(7, api.OpShl+api.OfLong, 4, 3), op(6, api.OpLtU+api.OfLong, 4, 1), op(5, api.OpDivD, 2, 5), op(6, api.OpGeD, 2, 5),
		opN(6, api.OpMod, 3, 5), opN(7, api.OpMul+api.OfLong, 4, 5), opN(7, api.OpShr+api.OfLong, 4, 5), opN(6, api.OpEq+api.OfLong, 4, 0), opN(6, api.OpGtU, 3, 1<<40),
		load(6, api.C8S, 4, -3), load(6, api.C32, 4, 0), load(7, api.C64, 4, 1<<40), load(5, api.CF64, 1, 8), store(api.C16U, 1, 4, 6), store(api.C64, 1, 0, 4), store(api.CF64, 1, 8, 5),
		call(6, "int", "ii", 3), call(-1, "int", "ii", 3), call(-1, "show", "iv", 3), call(7, "many", "iiiiiiiidl", 0, 0, 0, 0, 0, 0, 3, 3, 5), call(5, "", "dd", 1, 5), call(-1, "", "dv", 1, 5), call(-1, "", "v", 1), call(-1, "stop", "v"), call(6, "all", "ildi", 3, 4, 5),
		cond(3, 50, 51), cond(0, 0, 0), ret(6), ret(), tail("all", "ildi", 0, 1, 2), tail("", "i", 1), tail("", "ldi", 1, 4, 5),
	)
	void := function("many", "v", "", tail("stop", "v"), tail("many", "v"), ret())
	return program(framed(16, all), void)
}

// wantRight asks whether a program is right, as the document has it.
func wantRight(t *testing.T, what string, g api.Graphs, want bool) {
	t.Helper()
	if faults := faultsOf(g); (len(faults) == 0) != want {
		t.Errorf("%s: the judge says %s", what, strings.Join(faults, "; "))
	}
	if got := rtl.Right(g); got != want {
		t.Errorf("%s: %v, not %v", what, got, want)
	}
}

// P15.1: instructions of all forms are right.
func TestRight(t *testing.T) {
	g := sampler()
	wantRight(t, "all forms", g, true)
	wantRight(t, "nothing", api.Graphs{}, true)
	wantRight(t, "no function", program(), true)
	wantRight(t, "a function alone", api.Graphs{Funcs: []api.Graph{function("f", "v", "", ret())}}, true)
	wantRight(t, "a function of nothing", program(api.Graph{}), false)
	wantRight(t, "the second one", program(function("main", "v", "", ret()), function("f", "i", "l", ret(0))), false)
	for _, bytes := range []int{-1 << 63, -8, -1, 0, 1, api.MaxFrame, api.MaxFrame + 1, 1 << 62} {
		wantRight(t, "a frame", program(framed(bytes, function("main", "v", "", ret()))), bytes >= 0 && bytes <= api.MaxFrame)
	}
	for _, kind := range []int{-1, 0, 1, 2, 3, 4, 5} {
		f := function("main", "v", "", tail("main", "v"))
		f.Sig.Result, f.Code[0].Sig.Result = kind, kind
		wantRight(t, "a result", program(f), kind >= 0 && kind <= api.Double)
	}
	for _, i := range []api.Instr{call(-1, "f", "v"), call(0, "f", "i"), tail("f", "i"), global(1, "f", 0), global(1, "g", 0)} {
		f := function("main", "i", "il", i, ret())
		wantRight(t, "without what it names", api.Graphs{Funcs: []api.Graph{f}}, false)
		isCall := i.Kind != api.IOp
		wantRight(t, "with a variable of the name", api.Graphs{Vars: []api.Var{{Name: "f"}}, Funcs: []api.Graph{f}}, !isCall && i.Sym == "f")
		wantRight(t, "with a function from outside of the name", api.Graphs{Externs: []api.Extern{{Name: "f", Sig: sigOf("llv")}}, Funcs: []api.Graph{f}}, i.Sym == "f")
		wantRight(t, "with a function of the name", api.Graphs{Funcs: []api.Graph{f, function("f", "d", "", ret())}}, i.Sym == "f")
	}
}

// P15.1: what a function is but for its instructions.
func TestRightFunctions(t *testing.T) {
	for _, r := range []struct {
		what   string
		change func(f *api.Graph)
		right  bool
	}{
		{"as it is", func(f *api.Graph) {}, true},
		{"another name", func(f *api.Graph) { f.Name = "" }, true},
		{"no frame", func(f *api.Graph) { f.Frame = 8 }, true},
		{"the greatest frame", func(f *api.Graph) { f.Frame = api.MaxFrame }, true},
		{"a greater one", func(f *api.Graph) { f.Frame = api.MaxFrame + 1 }, false},
		{"one below 0", func(f *api.Graph) { f.Frame = -8 }, false},
		{"less than its address", func(f *api.Graph) { f.Frame = 7 }, false},
		{"an entry further on", func(f *api.Graph) { f.Entry = 4 }, true},
		{"an entry behind", func(f *api.Graph) { f.Entry = 5 }, false},
		{"an entry ahead", func(f *api.Graph) { f.Entry = -1 }, false},
		{"no code", func(f *api.Graph) { f.Code = nil }, false},
		{"more registers", func(f *api.Graph) { f.Kinds = append(f.Kinds, 1, 2, 3, 3) }, true},
		{"a register of no kind", func(f *api.Graph) { f.Kinds = append(f.Kinds, 0) }, false},
		{"a register of addresses", func(f *api.Graph) { f.Kinds = append(f.Kinds, api.Ptr) }, false},
		{"a register of a kind below 0", func(f *api.Graph) { f.Kinds = append(f.Kinds, -1) }, false},
		{"fewer registers", func(f *api.Graph) { f.Kinds = f.Kinds[:3] }, false},
		{"another register for a parameter", func(f *api.Graph) { f.Params = []int{2, 1} }, true},
		{"one of another kind", func(f *api.Graph) { f.Params = []int{1, 3} }, false},
		{"one that isn't there", func(f *api.Graph) { f.Params = []int{0, 4} }, false},
		{"one below 0", func(f *api.Graph) { f.Params = []int{-1, 1} }, false},
		{"fewer parameters", func(f *api.Graph) { f.Params = f.Params[:1] }, false},
		{"more parameters", func(f *api.Graph) { f.Params = []int{0, 1, 2} }, false},
		{"one twice", func(f *api.Graph) { f.Params, f.Sig.Params = []int{0, 1, 0}, []int{1, 2, 1} }, false},
		{"no parameters", func(f *api.Graph) { f.Params, f.Sig.Params = nil, []int{} }, true},
		{"another Sig", func(f *api.Graph) { f.Sig = sigOf("ili") }, true},
		{"a Sig of another result", func(f *api.Graph) { f.Sig = sigOf("ild") }, false},
		{"a Sig without one", func(f *api.Graph) { f.Sig = sigOf("ilv") }, false},
		{"a Sig of other parameters", func(f *api.Graph) { f.Sig = sigOf("lli") }, false},
		{"a Sig of more", func(f *api.Graph) { f.Sig = sigOf("ilii") }, false},
	} {
		f := framed(8, function("f", "ili", "ilil", nop(), frame(3, 8), op(2, api.OpNeg, 0), cond(2, 0, 4), ret(2)))
		r.change(&f)
		wantRight(t, r.what, program(f), r.right)
	}
}

// other is values that a field may have in place of its own.
func other(v reflect.Value) []reflect.Value {
	var list []any
	switch v.Interface().(type) {
	case int:
		n := int(v.Int())
		for _, k := range []int{0, 1, 2, 3, 4, 5, 6, 7, 8, 9, 30, 56, 57, 61, 95, 96, 97, 99, 100, 101, 102, 103, 104, 200, 203, 204, 255, 256, 262, 295, 300, 301, -1, -2, 16, 17, n + 1, n - 1, n + api.WithN, n - api.WithN, n + api.OfLong, math.MaxInt, math.MinInt} {
			list = append(list, k)
		}
	case int64:
		list = []any{int64(0), int64(1), int64(-1), int64(math.MinInt64)}
	case string:
		list = []any{"", "gi", "int", "show", "stop", "all", "many", "none"}
	case []int:
		args := v.Interface().([]int)
		list = []any{[]int(nil), []int{}, []int{0}, []int{1}, []int{5}, []int{0, 1}, []int{1, 0}, append(slices.Clone(args), 0), append([]int{1}, args...), append(slices.Clone(args), 2)}
		for n := range args {
			for _, k := range []int{0, 1, 2, 8, -1, math.MaxInt, math.MinInt} {
				changed := slices.Clone(args)
				changed[n] = k
				list = append(list, changed)
			}
			list = append(list, slices.Delete(slices.Clone(args), n, n+1))
		}
	case api.Value:
		list = []any{api.Value{}, i32(0), i64(0), f64(0), api.Value{Kind: api.Int, Bits: 1 << 32}, api.Value{Kind: api.Long, Block: 1}, api.Value{Kind: api.Double, Block: -1}, api.Value{Kind: api.Ptr, Block: 1}, api.Value{Bits: 1}, api.Value{Kind: 9}}
	case api.Sig:
		list = []any{api.Sig{}, api.Sig{Params: []int{}}, sigOf("i"), sigOf("ii"), sigOf("iv"), sigOf("dd"), sigOf("dv"), sigOf("lddi"), sigOf("ildd"), api.Sig{Result: api.Ptr}, api.Sig{Result: -1}, api.Sig{Params: []int{0}}, api.Sig{Params: []int{api.Ptr}, Result: api.Int}}
	}
	var values []reflect.Value
	for _, x := range list {
		values = append(values, reflect.ValueOf(x))
	}
	return values
}

// P15.1: each field of each instruction with other values: right just if the document has it so.
func TestRightFields(t *testing.T) {
	g := sampler()
	var right, wrong int
	for f := range g.Funcs {
		for n, i := range g.Funcs[f].Code {
			for field := range reflect.TypeOf(i).NumField() {
				for _, v := range other(reflect.ValueOf(i).Field(field)) {
					changed := i
					reflect.ValueOf(&changed).Elem().Field(field).Set(v)
					g.Funcs[f].Code[n] = changed
					want := len(faultsOf(g)) == 0
					if got := rtl.Right(g); got != want {
						t.Errorf("%+v: %v, not %v", changed, got, want)
					}
					if want {
						right++
					} else {
						wrong++
					}
				}
			}
			g.Funcs[f].Code[n] = i
		}
	}
	if right < 1500 || wrong < 8000 {
		t.Errorf("%d were right, %d weren't", right, wrong)
	}
}

// P15.1: two fields at once, of grown programs.
func TestRightGrown(t *testing.T) {
	var right, wrong int
	for seed := range 1500 {
		g, p := grownProgram(seed)
		for range 1 + g.below(2) {
			f := &p.Funcs[g.below(len(p.Funcs))]
			i := reflect.ValueOf(&f.Code[g.below(len(f.Code))]).Elem()
			field := i.Field(g.below(i.NumField()))
			field.Set(oneOf(g, other(field)...))
		}
		want := len(faultsOf(p)) == 0
		if got := rtl.Right(p); got != want {
			t.Errorf("seed %d: %v, not %v: %s", seed, got, want, strings.Join(faultsOf(p), "; "))
		}
		if want {
			right++
		} else {
			wrong++
		}
	}
	if min(right, wrong) < 100 {
		t.Errorf("%d were right, %d weren't", right, wrong)
	}
}
