package passes

import (
	"fmt"
	"reflect"
	"slices"
	"testing"

	"alembic/api"
	"alembic/locals"
)

// P10.1 to P10.4, P11.1, P11.3, P12.1, P12.2: what becomes of grown units, with their locals and with fewer, in one frame and for each target.
func TestGrownUnits(t *testing.T) {
	var ended [3]int
	var stay, gone int
	for seed := range 1000 {
		what := fmt.Sprint("seed ", seed)
		g, u := grownUnit(seed)
		for _, fault := range faultsOf(light, u) {
			t.Fatalf("%s: %s", what, fault)
		}
		script := []int64{int64(g.below(9)) - 2, 1, 0, 7, int64(g.below(3)) << 31}
		fuels := []int{0, g.below(9), g.below(60), 300}
		madeFuel := 1200
		if seed%100 == 0 {
			madeFuel = api.MaxFuel
		}
		fewer := fewerOf(t, what, u)
		compareSteps(t, what, u, fewer, script, append(fuels, madeFuel)...)
		compare(t, what, u, fewer, script, madeFuel, fuels...)
		wide, minor := minorOf(t, what, u), minorOf(t, what, fewer)
		compare(t, what, u, wide, script, madeFuel, fuels...)
		ended[compare(t, what, fewer, minor, script, madeFuel, fuels...).Status]++
		for i, target := range targets {
			v := []api.Unit{wide, minor}[(seed+i)%2]
			compareEnds(t, what, v, selOf(t, what, target, v), script, madeFuel, fuels...)
		}
		if _, again := grownUnit(seed); !reflect.DeepEqual(u, again) {
			t.Errorf("%s was changed", what)
		}
		for _, f := range u.Funcs {
			for _, k := range locals.Kept(f) {
				if k {
					stay++
				} else {
					gone++
				}
			}
		}
		if t.Failed() {
			t.Fatalf("%s: %s", what, unitText(u))
		}
	}
	if slices.Min(ended[:]) < 250 || stay < 20000 || gone < 20000 {
		t.Errorf("%v ended so, %d locals stay, %d are gone", ended, stay, gone)
	}
}

func unitText(u api.Unit) string {
	text := ""
	for _, f := range u.Funcs {
		text += funcText(f) + "\n"
	}
	return text
}
