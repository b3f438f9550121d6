package passes

import (
	"fmt"
	"reflect"
	"slices"
	"sync"
	"testing"

	"alembic/api"
	"alembic/locals"
)

// tally counts how runs of grown units ended, as Minor and as RTL, and how many locals stay and are gone.
type tally struct {
	sync.Mutex
	ended, rtls [3]int
	stay, gone  int
}

// P10.1 to P10.4, P11.1, P11.3, P12.1, P12.2, P14.1, P14.2, P16.1 to P16.3, P17.1 to P17.3: what becomes of grown units, with their locals and with fewer, in one frame, for each target, as RTL, and of that.
func TestGrownUnits(t *testing.T) {
	const parts = 8
	all := &tally{}
	t.Run("seeds", func(t *testing.T) {
		for part := range parts {
			t.Run(fmt.Sprint(part), func(t *testing.T) {
				t.Parallel()
				for seed := part; seed < 1000 && !t.Failed(); seed += parts {
					all.checkGrown(t, seed)
				}
			})
		}
	})
	if slices.Min(all.ended[:]) < 250 || slices.Min(all.rtls[:]) < 250 || all.stay < 20000 || all.gone < 20000 {
		t.Errorf("%v and %v ended so, %d locals stay, %d are gone", all.ended, all.rtls, all.stay, all.gone)
	}
}

func (all *tally) checkGrown(t *testing.T, seed int) {
	what := fmt.Sprint("seed ", seed)
	g, u := grownUnit(seed)
	for _, fault := range faultsOf(light, u) {
		t.Fatalf("%s: %s", what, fault)
	}
	script := []int64{int64(g.below(9)) - 2, 1, 0, 7, int64(g.below(3)) << 31}
	fuels := []int{0, g.below(9), g.below(60), 300}
	madeFuel := 1200
	if seed%100 == 0 {
		madeFuel = api.MaxFuel
	}
	fewer := fewerOf(t, what, u)
	compareSteps(t, what, u, fewer, script, append(fuels, madeFuel)...)
	compare(t, what, u, fewer, script, madeFuel, fuels...)
	wide, minor := minorOf(t, what, u), minorOf(t, what, fewer)
	compare(t, what, u, wide, script, madeFuel, fuels...)
	status := compare(t, what, fewer, minor, script, madeFuel, fuels...).Status
	var rtls []int
	for i, target := range targets {
		v := []api.Unit{wide, minor}[(seed+i)%2]
		sel := selOf(t, what, target, v)
		compareEnds(t, what, v, sel, script, madeFuel, fuels...)
		made := graphOf(t, what, sel)
		rtls = append(rtls, compareGraph(t, what, sel, made, script, 2*madeFuel, fuels...).Status)
		if i == seed%2 {
			compareShorter(t, what, made, script, append(fuels, 2*madeFuel)...)
		}
	}
	if _, again := grownUnit(seed); !reflect.DeepEqual(u, again) {
		t.Errorf("%s was changed", what)
	}
	if t.Failed() {
		t.Fatalf("%s: %s", what, unitText(u))
	}
	all.count(u, status, rtls)
}

func (all *tally) count(u api.Unit, status int, rtls []int) {
	all.Lock()
	defer all.Unlock()
	all.ended[status]++
	for _, s := range rtls {
		all.rtls[s]++
	}
	for _, f := range u.Funcs {
		for _, k := range locals.Kept(f) {
			if k {
				all.stay++
			} else {
				all.gone++
			}
		}
	}
}

func unitText(u api.Unit) string {
	text := ""
	for _, f := range u.Funcs {
		text += funcText(f) + "\n"
	}
	return text
}
