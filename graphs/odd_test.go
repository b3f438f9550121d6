package graphs

import (
	"reflect"
	"testing"

	"alembic/api"
	"alembic/graph"
	"alembic/rtl"
)

// Programs that aren't right are judged, renumbered and run without a panic.
func TestOddPrograms(t *testing.T) {
	for _, f := range []api.Graph{
		{}, {Entry: -1}, {Entry: 5}, {Kinds: []int{99}}, {Sig: sigOf("iii")}, {Params: []int{1, 2, -1 << 63}}, {Frame: -1 << 63}, {Name: "main", Entry: 1 << 62}, {Name: "main", Params: []int{7}},
		{Name: "main", Frame: 1 << 62, Code: []api.Instr{{Kind: api.IOp, Op: api.OpFrame, Off: -1 << 63, Dst: 1 << 62, Next: 1}, {Kind: api.ILoad, Chunk: 9, Args: []int{1 << 62}, Next: 2}, {Kind: api.IReturn}}},
	} {
		p := program(f)
		if rtl.Right(p) {
			t.Errorf("%+v is right", f)
		}
		if o := rtl.Run(p, nil, 10); o.Status == api.Exited {
			t.Errorf("%+v: %s", f, shown(o))
		}
		graph.Renumber(f)
	}
	for seed := range 1500 {
		g, p := grownProgram(seed)
		for range 1 + g.below(3) {
			f := &p.Funcs[g.below(len(p.Funcs))]
			i := reflect.ValueOf(&f.Code[g.below(len(f.Code))]).Elem()
			field := i.Field(g.below(i.NumField()))
			field.Set(oneOf(g, other(field)...))
		}
		rtl.Right(p)
		rtl.Run(p, nil, 200)
		rtl.Run(renumbered(p), nil, 200)
	}
}

// scribble writes over all numbers in the lists of an answer.
func scribble(v reflect.Value) {
	switch v.Kind() {
	case reflect.Struct:
		for i := range v.NumField() {
			scribble(v.Field(i))
		}
	case reflect.Slice:
		for i := range v.Len() {
			if e := v.Index(i); e.Kind() == reflect.Int {
				e.SetInt(99)
			} else {
				scribble(e)
			}
		}
	}
}

// P15.1, P14.3: what is handed in stays as it was, whatever is done with an answer, and the answer is the same each time.
func TestArgumentsStay(t *testing.T) {
	for seed := range 100 {
		_, p := grownProgram(seed)
		script := []int64{1, 2, 3, 99}
		first := rtl.Run(p, script[:3], 300)
		made := renumbered(p)
		rtl.Right(p)
		scribble(reflect.ValueOf(made.Funcs))
		if _, again := grownProgram(seed); !reflect.DeepEqual(p, again) || !reflect.DeepEqual(script, []int64{1, 2, 3, 99}) {
			t.Fatalf("seed %d was changed", seed)
		}
		again := rtl.Run(p, []int64{1, 2, 3}, 300)
		if !reflect.DeepEqual(first, again) {
			t.Errorf("seed %d: %s, then %s", seed, shown(first), shown(again))
		}
		scribble(reflect.ValueOf(first.Trace))
		if third := rtl.Run(p, []int64{1, 2, 3}, 300); !reflect.DeepEqual(third, again) {
			t.Errorf("seed %d: %s, then %s", seed, shown(third), shown(again))
		}
	}
}
