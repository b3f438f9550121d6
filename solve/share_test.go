package solve_test

import (
	"slices"
	"testing"

	"alembic/solve"
)

// given is arguments for all calls, in whose lists there is spare room with numbers in it.
type given struct {
	next, first, ends [][]int
	start             []int
}

func newGiven() given {
	return given{
		next:  [][]int{roomy(2, 1, 1, 9), roomy(3, 0), roomy(3), roomy(1, -4), roomy(0)},
		first: [][]int{roomy(5, 3, 5), roomy(), roomy(8, 7), roomy(7)},
		ends:  [][]int{roomy(), roomy(5, 5), roomy(3), roomy(9), roomy(), roomy(1)},
		start: roomy(4, 2, 4),
	}
}

// roomy is a list behind which there are two more numbers.
func roomy(list ...int) []int { return append(slices.Clone(list), 77, 88)[:len(list)] }

// answers are those of all calls, as lists.
func (g given) answers() [][]int {
	all := [][]int{solve.Order(g.next, 0)}
	all = append(all, solve.Before(g.next)...)
	all = append(all, solve.Backward(g.next, g.first, g.ends)...)
	return append(all, solve.Forward(g.next, 0, g.start, g.first, g.ends)...)
}

// whole are the lists that were given, with their spare room.
func (g given) whole() [][]int {
	var all [][]int
	for _, l := range slices.Concat(g.next, g.first, g.ends, [][]int{g.start}) {
		all = append(all, l[:len(l)+2])
	}
	return all
}

// P13.1: nothing that is handed in is changed, nor its spare room, and what is answered is new, each list apart from the others.
func TestMemoryIsApart(t *testing.T) {
	g := newGiven()
	solve.Reach(g.next, 0)
	all := g.answers()
	if !sameLists(g.whole(), newGiven().whole()) {
		t.Errorf("given is %v, not %v", g.whole(), newGiven().whole())
	}
	want := newGiven().answers()
	if !sameLists(all, want) {
		t.Errorf("%v, and then %v", all, want)
	}
	for i, l := range all {
		for at := range l[:cap(l)] {
			l[:cap(l)][at] = 99
		}
		if !sameLists(all[i+1:], want[i+1:]) {
			t.Errorf("behind the list %d there are %v, not %v", i, all[i+1:], want[i+1:])
		}
	}
	clear(solve.Reach(g.next, 0))
	if !sameLists(g.whole(), newGiven().whole()) {
		t.Errorf("given is %v", g.whole())
	}
}

// P13.1: what is changed in the arguments later is not changed in answers.
func TestNothingIsKept(t *testing.T) {
	g := newGiven()
	all := g.answers()
	for _, l := range g.whole() {
		clear(l)
	}
	clear(g.next)
	clear(g.first)
	clear(g.ends)
	if want := newGiven().answers(); !sameLists(all, want) {
		t.Errorf("%v, not %v", all, want)
	}
}
