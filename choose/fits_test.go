package choose_test

import (
	"math"
	"reflect"
	"testing"

	"alembic/api"
	"alembic/choose"
)

// P12.1: the numbers that an OpI of a target may have.
func TestFits(t *testing.T) {
	for _, r := range []struct {
		n       int64
		rv, x64 bool
	}{
		{0, true, true}, {1, true, true}, {-1, true, true},
		{2046, true, true}, {2047, true, true}, {2048, false, true}, {4096, false, true}, {65536 + 5, false, true},
		{-2047, true, true}, {-2048, true, true}, {-2049, false, true}, {-4096, false, true},
		{1<<31 - 2, false, true}, {1<<31 - 1, false, true}, {1 << 31, false, false}, {1<<32 - 1, false, false}, {1 << 32, false, false}, {1<<32 + 1, false, false},
		{-1<<31 + 1, false, true}, {-1 << 31, false, true}, {-1<<31 - 1, false, false}, {-1 << 32, false, false},
		{math.MaxInt64, false, false}, {math.MinInt64, false, false}, {math.MinInt64 + 1, false, false},
	} {
		if rv, x64 := choose.Fits(api.RV64, r.n), choose.Fits(api.X64, r.n); rv != r.rv || x64 != r.x64 {
			t.Errorf("%d: %v, %v", r.n, rv, x64)
		}
		for _, target := range []int{0, 3, -1, math.MaxInt, math.MinInt} {
			if choose.Fits(target, r.n) {
				t.Errorf("%d fits the target %d", r.n, target)
			}
		}
	}
}

// P12.1: what is no target is told, with no unit.
func TestTargets(t *testing.T) {
	u := api.Unit{Vars: []api.Var{{Name: "a", Size: 4, Align: 4}}, Funcs: []api.Func{{Name: "main", Sig: api.Sig{Result: api.Int}}}}
	for _, target := range []int{0, 3, -1, math.MaxInt, math.MinInt} {
		for _, u := range []api.Unit{{}, u} {
			if sel, errno := choose.Unit(target, u); errno != api.ErrTarget || !reflect.ValueOf(sel).IsZero() {
				t.Errorf("%d: %+v, %d", target, sel, errno)
			}
		}
	}
	for _, target := range []int{api.RV64, api.X64} {
		if sel, errno := choose.Unit(target, u); errno != api.OK || len(sel.Vars) != 1 || len(sel.Funcs) != 1 {
			t.Errorf("%d: %+v, %d", target, sel, errno)
		}
		if sel, errno := choose.Unit(target, api.Unit{}); errno != api.OK || !reflect.ValueOf(sel).IsZero() {
			t.Errorf("%d: %+v, %d", target, sel, errno)
		}
	}
}
