package graphs

import (
	"reflect"
	"slices"
	"testing"

	"alembic/api"
	"alembic/graph"
	"alembic/rtl"
	"alembic/trace"
)

// P15.2 (as P8.2): with more fuel a run goes on, and what ended ends alike.
func TestMoreFuel(t *testing.T) {
	for seed := range 100 {
		_, p := grownProgram(seed)
		last := rtl.Run(p, []int64{3, 1}, 0)
		for fuel := 1; fuel < 150; fuel++ {
			o := rtl.Run(p, []int64{3, 1}, fuel)
			if o.Steps > fuel || o.Status == api.Running && o.Steps != fuel {
				t.Errorf("seed %d, fuel %d: %s", seed, fuel, shown(o))
			}
			if !trace.Begins(last.Trace, o.Trace) || last.Steps > o.Steps || last.Status != api.Running && !sameOutcome(last, o) {
				t.Errorf("seed %d, fuel %d: %s, then %s", seed, fuel, shown(last), shown(o))
			}
			last = o
		}
	}
}

// P15.2 (as P8.3): the events are those of the functions from outside, with the answers of the script.
func TestEvents(t *testing.T) {
	seen := map[string]int{}
	for seed := range 600 {
		_, p := grownProgram(seed)
		script := []int64{5, -1, 1<<40 + 2, 0, 8}
		for n, e := range rtl.Run(p, script, 300).Trace {
			i := slices.IndexFunc(p.Externs, func(x api.Extern) bool { return x.Name == e.Name })
			if i < 0 || e.Result != trace.Answer(p.Externs[i].Sig.Result, script, n) || !slices.EqualFunc(e.Args, p.Externs[i].Sig.Params, func(v api.Value, kind int) bool { return v.Kind == kind }) {
				t.Errorf("seed %d: event %d is %+v", seed, n, e)
			}
			seen[e.Name]++
		}
	}
	for _, e := range program().Externs {
		if seen[e.Name] < 10 {
			t.Errorf("%s was called %d times", e.Name, seen[e.Name])
		}
	}
}

// renumbered is a program each of whose functions is renumbered.
func renumbered(p api.Graphs) api.Graphs {
	made := api.Graphs{Vars: p.Vars, Externs: p.Externs}
	for _, f := range p.Funcs {
		made.Funcs = append(made.Funcs, graph.Renumber(f))
	}
	return made
}

// orderOf is the instructions that are reached from the entry, as the document orders them: each behind all that were come to from it, and the whole turned round.
func orderOf(f api.Graph) []int {
	var order []int
	seen := map[int]bool{}
	var come func(n int)
	come = func(n int) {
		if seen[n] {
			return
		}
		seen[n] = true
		switch i := f.Code[n]; i.Kind {
		case api.ICond:
			come(i.Next)
			come(i.Else)
		case api.ITail, api.IReturn:
		default:
			come(i.Next)
		}
		order = append(order, n)
	}
	come(f.Entry)
	slices.Reverse(order)
	return order
}

// P14.3: just what is reached is left, in its order, and it means the same, step by step.
func TestRenumber(t *testing.T) {
	var gone, kept int
	for seed := range 1500 {
		g, p := grownProgram(seed)
		made := renumbered(p)
		if !rtl.Right(made) || len(faultsOf(made)) > 0 {
			t.Errorf("seed %d: %v", seed, faultsOf(made))
		}
		for n, f := range p.Funcs {
			checkRenumbered(t, f, made.Funcs[n])
			gone += len(f.Code) - len(made.Funcs[n].Code)
			kept += len(made.Funcs[n].Code)
		}
		if !reflect.DeepEqual(renumbered(made), made) {
			t.Errorf("seed %d: done twice it is something else", seed)
		}
		for _, fuel := range []int{g.below(9), g.below(90), 400} {
			script := []int64{4, 0, -1, 1}
			if a, b := rtl.Run(p, script, fuel), rtl.Run(made, script, fuel); !sameOutcome(a, b) {
				t.Errorf("seed %d, fuel %d: %s, not %s", seed, fuel, shown(b), shown(a))
			}
		}
	}
	if gone < 5000 || kept < 50000 {
		t.Errorf("%d are gone, %d are left", gone, kept)
	}
}

func checkRenumbered(t *testing.T, f, made api.Graph) {
	t.Helper()
	order := orderOf(f)
	want := f
	want.Entry, want.Code = 0, nil
	for _, n := range order {
		i := f.Code[n]
		if i.Kind != api.ITail && i.Kind != api.IReturn {
			i.Next = slices.Index(order, i.Next)
		}
		if i.Kind == api.ICond {
			i.Else = slices.Index(order, i.Else)
		}
		want.Code = append(want.Code, i)
	}
	if !reflect.DeepEqual(made, want) {
		t.Errorf("%+v\nis\n%+v\nnot\n%+v", f, made, want)
	}
}

// P14.3: the numbers of a few graphs.
func TestNumbers(t *testing.T) {
	for _, r := range []struct {
		what string
		f    api.Graph
		want []api.Instr
	}{
		{"one", function("f", "v", "", ret()), []api.Instr{ret()}},
		{"a round", function("f", "v", "", to(0, nop())), []api.Instr{to(0, nop())}},
		{"what isn't reached", function("f", "v", "i", num(0, i32(1)), to(3, nop()), ret(0), ret()), []api.Instr{num(0, i32(1)), nop(), ret()}},
		{"Next ahead of Else", function("f", "v", "i", cond(0, 2, 1), ret(), num(0, i32(1)), ret(0)), []api.Instr{cond(0, 2, 1), ret(), num(0, i32(1)), ret(0)}},
		{"and the other way round", function("f", "v", "i", cond(0, 1, 2), ret(), num(0, i32(1)), ret(0)), []api.Instr{cond(0, 3, 1), num(0, i32(1)), ret(0), ret()}},
		{"ways that meet", function("f", "v", "i", cond(0, 1, 2), num(0, i32(1)), ret()), []api.Instr{cond(0, 1, 2), num(0, i32(1)), ret()}},
		{"a way back", function("f", "v", "i", num(0, i32(1)), cond(0, 0, 2), ret()), []api.Instr{num(0, i32(1)), cond(0, 0, 2), ret()}},
	} {
		want := function("f", "v", "i", r.want...)
		if got := graph.Renumber(r.f); !reflect.DeepEqual(got.Code, want.Code) || got.Entry != 0 {
			t.Errorf("%s: %+v, not %+v", r.what, got.Code, want.Code)
		}
	}
	f := function("f", "v", "i", ret(), to(0, num(0, i32(1))), to(1, nop()))
	f.Entry = 2
	if got, want := graph.Renumber(f).Code, function("f", "v", "i", nop(), num(0, i32(1)), ret()).Code; !reflect.DeepEqual(got, want) {
		t.Errorf("from another entry: %+v, not %+v", got, want)
	}
}

// P14.3: a way of very many instructions.
func TestLongGraphs(t *testing.T) {
	const n = 1 << 18
	var code []api.Instr
	for i := range n {
		code = append(code, to((i+n-1)%n, nop()))
	}
	code[0] = ret()
	f := function("f", "v", "", code...)
	f.Entry = n - 1
	made := graph.Renumber(f)
	if len(made.Code) != n || made.Code[n-1].Kind != api.IReturn {
		t.Fatalf("%d instructions", len(made.Code))
	}
	for i := range n - 1 {
		if made.Code[i].Next != i+1 {
			t.Fatalf("%d goes on to %d", i, made.Code[i].Next)
		}
	}
	if !rtl.Right(program(f, made)) {
		t.Error("it isn't right")
	}
}
