package passes

import (
	"testing"

	"alembic/api"
	"alembic/core"
	"alembic/trace"
)

// costOf is P9.2's cost of a unit.
func costOf(u api.Unit) int {
	n := 0
	for _, f := range u.Funcs {
		n += len(f.Params) + partsOf(f.Body)
	}
	return 8*n + 40
}

// partsOf is how many statements, expressions and items there are.
func partsOf(list []api.Stmt) int {
	n := 0
	for _, s := range list {
		n += 1 + exprsOf(s.X) + partsOf(s.One) + partsOf(s.Two)
		for _, i := range s.Items {
			n++
			if !i.S.None() {
				n += partsOf([]api.Stmt{i.S})
			}
		}
	}
	return n
}

func exprsOf(list []api.Expr) int {
	n := 0
	for _, e := range list {
		if !e.None() {
			n += 1 + exprsOf(e.Kids)
		}
	}
	return n
}

// sameOutcome tells whether two outcomes are the same in all.
func sameOutcome(a, b api.Outcome) bool {
	return trace.Same(a, b) && a.Steps == b.Steps
}

// compare runs what a pass made of a unit with a fuel, and the unit with each of some fuels, and asks whether it means the same; the last outcome of the unit.
func compare(t testing.TB, what string, u, made api.Unit, script []int64, madeFuel int, fuels ...int) api.Outcome {
	t.Helper()
	b := core.Run(made, nil, script, madeFuel)
	var a api.Outcome
	for _, fuel := range fuels {
		a = core.Run(u, nil, script, fuel)
		if !trace.Refines(a, b) {
			t.Errorf("%s\nfuel %d: %s doesn't refine %s", what, fuel, shown(b), shown(a))
		}
		if a.Status == api.Exited && b.Status == api.Running && (a.Steps+2)*costOf(u) <= madeFuel {
			t.Errorf("%s\nfuel %d: %s comes to no end, but %s", what, fuel, shown(b), shown(a))
		}
	}
	return a
}

// compareSteps asks whether what a pass made of a unit does the same, step by step, whatever the fuel.
func compareSteps(t testing.TB, what string, u, made api.Unit, script []int64, fuels ...int) {
	t.Helper()
	for _, fuel := range fuels {
		a, b := core.Run(u, nil, script, fuel), core.Run(made, []int{1, 0, 1, 1}, script, fuel)
		if !sameOutcome(a, b) {
			t.Errorf("%s\nfuel %d: %s, not %s", what, fuel, shown(b), shown(a))
		}
	}
}
