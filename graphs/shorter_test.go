package graphs

import (
	"fmt"
	"reflect"
	"slices"
	"strings"
	"testing"

	"alembic/api"
	"alembic/fold"
	"alembic/rtl"
	"alembic/same"
)

// pass is one over RTL whose answer does what the program does step by step.
type pass struct {
	name string
	unit func(g api.Graphs) api.Graphs
}

func passes() []pass {
	return []pass{
		{"fold", fold.Unit},
		{"same", same.Unit},
		{"same of fold", func(g api.Graphs) api.Graphs { return same.Unit(fold.Unit(g)) }},
		{"fold of same", func(g api.Graphs) api.Graphs { return fold.Unit(same.Unit(g)) }},
		{"fold of same of fold of fold", func(g api.Graphs) api.Graphs { return fold.Unit(same.Unit(fold.Unit(fold.Unit(g)))) }},
		{"same of same", func(g api.Graphs) api.Graphs { return same.Unit(same.Unit(g)) }},
	}
}

// wantKept asks of what a pass makes of a program whether it is right RTL of the same parts, and does the same step by step, whatever the fuel (P16.1 and P16.2, P17.1 and P17.2).
func wantKept(t *testing.T, what string, x pass, p api.Graphs, script []int64, fuels ...int) {
	t.Helper()
	made := x.unit(p)
	if faults := faultsOf(made); len(faults) > 0 || !rtl.Right(made) {
		t.Errorf("%s, %s: it isn't right: %s", what, x.name, strings.Join(faults, "; "))
		return
	}
	if !reflect.DeepEqual(made.Vars, p.Vars) || !reflect.DeepEqual(made.Externs, p.Externs) || len(made.Funcs) != len(p.Funcs) {
		t.Fatalf("%s, %s: of other parts: %+v", what, x.name, made)
	}
	for n, f := range p.Funcs {
		got := made.Funcs[n]
		if got.Name != f.Name || !reflect.DeepEqual(got.Sig, f.Sig) || !slices.Equal(got.Params, f.Params) || got.Frame != f.Frame {
			t.Errorf("%s, %s: %s, %+v, %v, %d", what, x.name, got.Name, got.Sig, got.Params, got.Frame)
		}
	}
	for _, fuel := range fuels {
		if a, b := rtl.Run(p, script, fuel), rtl.Run(made, script, fuel); !sameOutcome(a, b) {
			t.Errorf("%s, %s, fuel %d: %s, not %s", what, x.name, fuel, shown(b), shown(a))
		}
	}
}

// P16.1 to P16.3, P17.1 to P17.3: what the passes make of grown programs.
func TestShorterGrown(t *testing.T) {
	for seed := range 700 {
		g, p := grownProgram(seed)
		script := []int64{int64(g.below(9)) - 2, 1, 0, 7, int64(g.below(3)) << 31}
		for _, x := range passes() {
			wantKept(t, fmt.Sprint("seed ", seed), x, p, script, g.below(9), g.below(90), 400)
			if !reflect.DeepEqual(x.unit(p), x.unit(p)) {
				t.Errorf("seed %d, %s: something else the second time", seed, x.name)
			}
		}
		if _, again := grownProgram(seed); !reflect.DeepEqual(p, again) || t.Failed() {
			t.Fatalf("seed %d", seed)
		}
	}
}

// P16.3, P17.3: what is done with an answer changes neither the program nor another answer.
func TestShorterIsNew(t *testing.T) {
	for seed := range 200 {
		_, p := grownProgram(seed)
		for _, x := range passes()[:2] {
			first, second := x.unit(p), x.unit(p)
			scribble(reflect.ValueOf(&first).Elem())
			if !reflect.DeepEqual(second, x.unit(p)) {
				t.Errorf("seed %d, %s: another answer was changed", seed, x.name)
			}
		}
		if _, again := grownProgram(seed); !reflect.DeepEqual(p, again) {
			t.Fatalf("seed %d was changed", seed)
		}
	}
}

// Programs that aren't right are taken without a panic.
func TestOddShorter(t *testing.T) {
	for _, f := range []api.Graph{
		{}, {Entry: -1}, {Entry: 5}, {Kinds: []int{99}}, {Sig: sigOf("iii")}, {Params: []int{1, 2, -1 << 63}}, {Entry: 1 << 62},
		function("f", "v", "i", num(-1<<63, i32(4)), opN(0, api.OpMul, 0, 4), to(1<<40, op(1<<40, api.OpMul, 0, 0))),
		function("f", "v", "i", num(0, i32(4)), op(0, api.OpMul, 0), op(0, api.OpAdd+api.WithN), op(0, api.OpMove), op(0, api.OpAdd), cond(0, -1, 1<<40)),
		function("f", "v", "il", num(0, i32(4)), op(0, api.OpMul, 1, -1), op(0, api.OpMul, -1, 0), opN(0, api.OpMul, 1, 8), op(1, api.OpMul+api.OfLong, 0), load(0, api.C32, -5, 0), api.Instr{Kind: api.ILoad, Next: 1 << 20}),
		function("f", "v", "i", num(0, i32(4)), cond(0, -1, 1<<40)),
		function("f", "v", "i", num(0, i32(0)), cond(0, -1, 1<<40)),
		function("f", "v", "", num(0, i32(4)), op(0, api.OpNeg, 0), api.Instr{Kind: api.ICond, Next: 1, Else: 3}, call(7, "int", "ii"), api.Instr{Kind: 99, Next: 1}),
	} {
		p := program(f)
		fold.Known(f)
		same.Blocks(f)
		for _, x := range passes() {
			x.unit(p)
		}
	}
	for seed := range 1500 {
		g, p := grownProgram(seed)
		for range 1 + g.below(3) {
			f := &p.Funcs[g.below(len(p.Funcs))]
			i := reflect.ValueOf(&f.Code[g.below(len(f.Code))]).Elem()
			field := i.Field(g.below(i.NumField()))
			field.Set(oneOf(g, other(field)...))
		}
		for _, f := range p.Funcs {
			fold.Known(f)
			same.Blocks(f)
		}
		for _, x := range passes()[:2] {
			x.unit(p)
		}
	}
}

// P16.3, P17.3: a program without anything.
func TestShorterNothing(t *testing.T) {
	for _, x := range passes() {
		if got := x.unit(api.Graphs{}); !reflect.ValueOf(got).IsZero() {
			t.Errorf("%s: %+v", x.name, got)
		}
	}
}
