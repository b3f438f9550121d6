package core_test

import (
	"reflect"
	"slices"
	"testing"

	"alembic/api"
	"alembic/core"
	"alembic/trace"
)

// lawful looks whether a run's outcomes at two fuels, the second one greater, go together.
func lawful(t *testing.T, less, more api.Outcome) {
	t.Helper()
	if !trace.Begins(less.Trace, more.Trace) || less.Steps > more.Steps {
		t.Errorf("%s, and with more fuel %s", shown(less), shown(more))
	}
	if less.Status != api.Running && !sameOutcome(less, more) {
		t.Errorf("%s ends, and with more fuel %s", shown(less), shown(more))
	}
}

// P8.2: with more fuel a run goes on.
func TestMoreFuel(t *testing.T) {
	for seed := range 100 {
		g := &grower{n: uint64(seed)*0x9e3779b97f4a7c15 + 3}
		u := g.unit()
		picks := []int{g.below(2), 1, g.below(2), 0, 1, 1, g.below(2)}
		last := core.Run(u, picks, []int64{3, 1}, 0)
		for fuel := 1; fuel < 120; fuel++ {
			o := core.Run(u, picks, []int64{3, 1}, fuel)
			if o.Steps > fuel || o.Status == api.Running && o.Steps != fuel {
				t.Errorf("seed %d, fuel %d: %s", seed, fuel, shown(o))
			}
			lawful(t, last, o)
			last = o
		}
	}
}

// P8.2: also where the activations are too many, and at the greatest fuels.
func TestMoreFuelInDeepCalls(t *testing.T) {
	for _, text := range []string{
		"extern void put(int a); void f(int n) { put(n); f(n + 1); } int main() { f(0); return 0; }",
		"extern void put(int a); int main() { for (int i = 0; ; i++) if (i % 1000 == 0) put(i); }",
	} {
		u := unitOf(t, text)
		last := core.Run(u, nil, nil, 0)
		for _, fuel := range []int{1, 100, 382, 383, 384, 385, 386, 387, 400, 10000, 65535, 65536, 65537, 1 << 40} {
			o := core.Run(u, nil, nil, fuel)
			lawful(t, last, o)
			last = o
		}
	}
}

// P8.3: the events are those of the functions from outside, with the answers of the script.
func TestEvents(t *testing.T) {
	sigs := map[string]api.Sig{}
	for _, e := range outsiders() {
		sigs[e.Name] = e.Sig
	}
	seen := map[string]int{}
	for seed := range 400 {
		g := &grower{n: uint64(seed)*0x9e3779b97f4a7c15 + 5}
		u, script := g.unit(), []int64{5, -1, 1<<40 + 2, 0, 8}
		for i, e := range core.Run(u, []int{1, 0, 1}, script, 300).Trace {
			sig, ok := sigs[e.Name]
			if !ok || e.Result != trace.Answer(sig.Result, script, i) || !slices.EqualFunc(e.Args, sig.Params, func(v api.Value, kind int) bool { return v.Kind == kind }) {
				t.Errorf("seed %d: event %d is %+v", seed, i, e)
			}
			seen[e.Name]++
		}
	}
	for name := range sigs {
		if seen[name] < 20 {
			t.Errorf("%s was called %d times", name, seen[name])
		}
	}
}

// Nothing that is handed in is changed or kept, and what is answered is new.
func TestNothingIsShared(t *testing.T) {
	grow := func() api.Unit {
		g := &grower{n: 77}
		return g.unit()
	}
	u, picks, script := grow(), []int{1, 0, 1, 1}, []int64{4, 5, 6, 7}
	first := core.Run(u, picks, script, 400)
	if len(first.Trace) < 2 {
		t.Fatal(shown(first))
	}
	was := shown(first)
	if !reflect.DeepEqual(u, grow()) || !slices.Equal(picks, []int{1, 0, 1, 1}) || !slices.Equal(script, []int64{4, 5, 6, 7}) {
		t.Error("what was handed in is changed")
	}
	second := core.Run(u, picks, script, 400)
	if !sameOutcome(first, second) {
		t.Errorf("%s, and again %s", shown(first), shown(second))
	}
	for _, e := range second.Trace {
		e.Name = ""
		for i := range e.Args {
			e.Args[i] = api.Value{}
		}
	}
	if shown(first) != was || !reflect.DeepEqual(u, grow()) {
		t.Error("two answers share memory")
	}
}
