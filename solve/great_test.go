package solve_test

import (
	"slices"
	"testing"

	"alembic/solve"
)

// chain is a graph of n nodes, each of which is followed by the next one, and the last by the first.
func chain(n int) [][]int {
	next := make([][]int, n)
	for i := range n {
		next[i] = []int{(i + 1) % n}
	}
	return next
}

// P13.1: a way of very many steps.
func TestLongWay(t *testing.T) {
	n := 1 << 20
	next := chain(n)
	order := solve.Order(next, 7)
	if len(order) != n {
		t.Fatalf("%d nodes in the order", len(order))
	}
	for p, i := range order {
		if i != (p+7)%n {
			t.Fatalf("%d at %d", i, p)
		}
	}
	if slices.Contains(solve.Reach(next, n-1), false) {
		t.Error("not all are reached")
	}
	uses, sets := make([][]int, n), make([][]int, n)
	uses[5], sets[9] = []int{1, 2}, []int{1}
	in := solve.Backward(next, uses, sets)
	there := solve.Forward(next, 6, []int{2}, uses[:6], sets)
	for i := range n {
		want := []int{1, 2}
		if i > 5 && i <= 9 {
			want = []int{2}
		}
		if !slices.Equal(in[i], want) {
			t.Fatalf("in %d: %v", i, in[i])
		}
		want = []int{1, 2}
		if i > 9 || i < 6 {
			want = []int{2}
		}
		if !slices.Equal(there[i], want) {
			t.Fatalf("at %d: %v", i, there[i])
		}
	}
}

// P13.1: very many things, each in few sets: a node sets what the next one uses, and is followed by the last one, too.
func TestManyThings(t *testing.T) {
	n := 1 << 18
	next, uses, sets := make([][]int, n), make([][]int, n), make([][]int, n)
	for i := range n {
		uses[i] = []int{n + i, -i}
		if i > 0 {
			next[i-1] = []int{i, n - 1}
			sets[i-1] = []int{-i, n + i, 3 * n}
		}
	}
	for i, set := range solve.Backward(next, uses, sets) {
		want := []int{-i, n + i}
		if i < n-2 {
			want = []int{1 - n, -i, n + i, 2*n - 1}
		}
		if !slices.Equal(set, want) {
			t.Fatalf("in %d: %v, not %v", i, set, want)
		}
	}
}

// P13.1: many things in many sets, over many ways.
func TestManyWays(t *testing.T) {
	n := 300
	next, all := make([][]int, n), make([][]int, n)
	for i := range n {
		for k := range n {
			next[i] = append(next[i], n-1-k)
		}
		all[i] = []int{n - i, -i}
	}
	want := things(slices.Concat(all...))
	for i, set := range solve.Backward(next, all, nil) {
		if !slices.Equal(set, want) {
			t.Fatalf("in %d there are %d things", i, len(set))
		}
	}
	for i, set := range solve.Forward(next, 0, nil, all, all) {
		if !slices.Equal(set, want) {
			t.Fatalf("at %d there are %d things", i, len(set))
		}
	}
}
