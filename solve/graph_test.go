package solve_test

import (
	"math"
	"math/rand/v2"
	"slices"
	"testing"

	"alembic/solve"
)

// P13.1: what is reached, and in what order it is told.
func TestReachAndOrder(t *testing.T) {
	for _, r := range []struct {
		next  string
		entry int
		order string
	}{
		// the document's graph
		{"1|2 0||", 0, "0 1 2"}, {"1|2 0||", 1, "1 0 2"}, {"1|2 0||", 2, "2"},
		// no node as entry, no nodes
		{"", 0, ""}, {"", -1, ""}, {"|", 0, "0"}, {"|", 1, ""}, {"|", -1, ""}, {"1||", 2, ""}, {"1||", math.MaxInt, ""}, {"1||", math.MinInt, ""},
		// numbers that are no node
		{"9|2|", 0, "0"}, {"-1 1 2|0 -7||", 0, "0 2 1"}, {"2 1|2|", 0, "0 1"}, {"9223372036854775807 -9223372036854775808 1||", 0, "0 1"},
		// ways of no step, rings
		{"0|", 0, "0"}, {"0 0|0|", 1, "1 0"}, {"1|0|", 0, "0 1"}, {"1|0|", 1, "1 0"}, {"|||", 1, "1"},
		// followers in the order of their list, the last way first
		{"1 2|||", 0, "0 2 1"}, {"2 1|||", 0, "0 1 2"}, {"1 2 1 1|||", 0, "0 2 1"}, {"1 2 3|4|4|4||", 0, "0 3 2 1 4"}, {"3 2 1|4|4|4||", 0, "0 1 2 3 4"},
		{"1 2|2|1|", 0, "0 1 2"}, {"2 1|2|1|", 0, "0 2 1"}, {"1 2|3|3||", 0, "0 2 1 3"}, {"2 1|3|1||", 0, "0 2 1 3"}, {"1 3|2|3||", 0, "0 1 2 3"}, {"3 1|2|3||", 0, "0 1 2 3"},
		// a loop with a way out of it, first or last in the list
		{"1|2 3|1||", 0, "0 1 3 2"}, {"1|3 2|1||", 0, "0 1 2 3"}, {"1|2 3|3 1||", 0, "0 1 2 3"},
		// what isn't reached, though it goes on to what is
		{"1||0 1|2 3|", 0, "0 1"}, {"1||0 1|2 3|", 3, "3 2 0 1"},
	} {
		next, want := lists(t, r.next), list(t, r.order)
		if got := solve.Order(next, r.entry); !slices.Equal(got, want) {
			t.Errorf("%q from %d: the order %v, not %v", r.next, r.entry, got, want)
		}
		reached := solve.Reach(next, r.entry)
		if len(reached) != len(next) {
			t.Errorf("%q from %d: %d nodes", r.next, r.entry, len(reached))
			continue
		}
		for i, ok := range reached {
			if ok != slices.Contains(want, i) {
				t.Errorf("%q from %d: %d is reached: %v", r.next, r.entry, i, ok)
			}
		}
	}
}

// P13.1: a graph turned round.
func TestBefore(t *testing.T) {
	for _, r := range []struct{ next, before string }{
		{"1|2 0||", "1|0|1|"}, {"", ""}, {"|", "|"}, {"0|", "0|"}, {"0 0 0|", "0|"}, {"1 1|0 1 0 1|", "1|0 1|"},
		{"2|2|2|", "||0 1 2|"}, {"2 1 0|2 1 0|0 1 2|", "0 1 2|0 1 2|0 1 2|"}, {"|0|0||0|", "1 2 4|||||"},
		{"9 -1 1|2 3||", "|0|1|"}, {"9223372036854775807 -9223372036854775808|", "|"}, {"3 3||1|0|", "3|2||0|"},
	} {
		if got := solve.Before(lists(t, r.next)); !sameLists(got, lists(t, r.before)) {
			t.Errorf("%q: %v, not %q", r.next, got, r.before)
		}
	}
}

// wantOrder is Order by the document's words, part within part.
func wantOrder(next [][]int, entry int) []int {
	var order []int
	var come func(i int)
	seen := map[int]bool{}
	come = func(i int) {
		if i < 0 || i >= len(next) || seen[i] {
			return
		}
		seen[i] = true
		for _, k := range next[i] {
			come(k)
		}
		order = append(order, i)
	}
	come(entry)
	slices.Reverse(order)
	return order
}

// checkGraph holds what is told of a graph, from an entry, against the document's words.
func checkGraph(t *testing.T, next [][]int, entry int) {
	t.Helper()
	follows := arrows(next)
	leads := ways(follows)
	reached, order, before := solve.Reach(next, entry), solve.Order(next, entry), solve.Before(next)
	for i := range next {
		if want := entry >= 0 && entry < len(next) && leads[entry][i]; reached[i] != want {
			t.Errorf("%v from %d: %d is reached: %v", next, entry, i, reached[i])
		}
		if want := slices.Contains(order, i); reached[i] != want {
			t.Errorf("%v from %d: %d is in the order: %v", next, entry, i, want)
		}
		var behind []int
		for k := range next {
			if follows[k][i] {
				behind = append(behind, k)
			}
		}
		if !slices.Equal(before[i], behind) {
			t.Errorf("%v: ahead of %d are %v, not %v", next, i, before[i], behind)
		}
	}
	if want := wantOrder(next, entry); !slices.Equal(order, want) {
		t.Errorf("%v from %d: the order %v, not %v", next, entry, order, want)
	}
	if len(order) > 0 && order[0] != entry {
		t.Errorf("%v from %d: the order %v", next, entry, order)
	}
	// P13.3
	for p, i := range order {
		for k := range next {
			if follows[i][k] && k != i && slices.Index(order, k) < p && !leads[k][i] {
				t.Errorf("%v from %d: %d stands behind %d in %v", next, entry, i, k, order)
			}
		}
	}
}

// P13.1, P13.3: all small graphs.
func TestSmallGraphs(t *testing.T) {
	for n := range 4 {
		graphs(n, func(next [][]int) {
			for entry := -1; entry <= n; entry++ {
				checkGraph(t, next, entry)
			}
			for _, followers := range next {
				slices.Reverse(followers)
			}
			for entry := range n {
				checkGraph(t, next, entry)
			}
		})
	}
}

// P13.1, P13.3: greater graphs, whose lists are in no order, with numbers that are no node.
func TestGrownGraphs(t *testing.T) {
	r := rand.New(rand.NewPCG(13, 1))
	for range 3000 {
		n := 1 + r.IntN(12)
		checkGraph(t, someLists(r, n, 1+r.IntN(4), -1, n+2), r.IntN(n))
	}
}
