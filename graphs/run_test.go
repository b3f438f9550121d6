package graphs

import (
	"fmt"
	"reflect"
	"slices"
	"strings"
	"testing"

	"alembic/rtl"
)

// P15.1: grown programs are right, and do what the model does, with any scripts and fuels.
func TestGrownPrograms(t *testing.T) {
	var ended [3]int
	seen := map[int]int{}
	for seed := range 3000 {
		g, p := grownProgram(seed)
		what := fmt.Sprint("seed ", seed)
		if faults := faultsOf(p); len(faults) > 0 || !rtl.Right(p) {
			t.Fatalf("%s isn't right: %s", what, strings.Join(faults, "; "))
		}
		script := []int64{int64(g.below(9)) - 2, 1, 0, 7, int64(g.below(3)) << 31}
		for _, fuel := range []int{g.below(9), g.below(90), 400} {
			a, b := modelRun(p, script, fuel), rtl.Run(p, script, fuel)
			if !sameOutcome(a, b) {
				t.Fatalf("%s, fuel %d: %s, not %s", what, fuel, shown(b), shown(a))
			}
			if fuel == 400 {
				ended[a.Status]++
				seen[len(a.Trace)]++
			}
		}
		if _, again := grownProgram(seed); !reflect.DeepEqual(p, again) {
			t.Fatalf("%s was changed", what)
		}
	}
	if slices.Min(ended[:]) < 300 || seen[0] > 2000 {
		t.Errorf("%v ended so; events %v", ended, seen)
	}
}
