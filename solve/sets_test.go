package solve_test

import (
	"math"
	"math/rand/v2"
	"slices"
	"testing"

	"alembic/solve"
)

// P13.1: the least solutions against the arrows.
func TestBackward(t *testing.T) {
	for _, r := range []struct{ next, uses, sets, in string }{
		// the document's equations
		{"1|2 0||", "||5|", "|5||", "||5|"},
		// no nodes, none of the sets
		{"", "", "", ""}, {"", "1|2|", "3|", ""}, {"|", "", "", "|"}, {"1||", "", "", "||"}, {"1||", "", "1|1|", "||"},
		// lists that are too short, or too long
		{"1||", "3|", "", "3||"}, {"1||", "|3|", "", "3|3|"}, {"1||", "|3|", "3|", "|3|"}, {"1||", "||3|", "", "||"}, {"1||", "|3|5|7|", "||3|", "3|3|"}, {"2|", "|3|", "", "|"}, {"|", "1|2|", "", "1|"},
		// a node's own uses stand ahead of what it sets
		{"|", "1|", "1|", "1|"}, {"0|", "1|", "1|", "1|"}, {"0|", "|", "1|", "|"}, {"1||", "1|2|", "1 2|", "1|2|"}, {"1||", "|1 2|", "|1 2|", "1 2|1 2|"},
		// rising, each once, whatever the order
		{"1||", "5 -3 5 5|9 -3 2 2 -9|", "", "-9 -3 2 5 9|-9 -3 2 9|"}, {"1 1||", "|7 3 7|", "7 7|", "3|3 7|"}, {"|", "9223372036854775807 0 -9223372036854775808|", "", "-9223372036854775808 0 9223372036854775807|"},
		// numbers that are no node
		{"1 7||", "|2|", "", "2|2|"}, {"-1 9||", "|2|", "", "|2|"}, {"2||", "|2|4|", "", "|2|"},
		// ways that part and meet
		{"1 2|3|3||", "|||1 2|", "|1|2||", "1 2|2|1|1 2|"}, {"1 2|3|3||", "||1|1|", "|1||", "1||1|1|"}, {"1 2|3|3||", "|1|1||", "1||||", "|1|1||"},
		// rings
		{"1|2|0|", "|7||", "", "7|7|7|"}, {"1|2|0|", "|7||", "7||", "|7||"}, {"1|2|0|", "|7||", "|7||", "7|7|7|"}, {"1|2|0|", "|7||", "||7|", "7|7||"}, {"1|2 3|1||", "||4|5|", "|4||", "5|5|4 5|5|"}, {"1|0|", "", "", "||"},
		// each node is asked, since there is no entry
		{"1|||1|", "|6||||", "", "6|6||6|"}, {"|0|0 1|1|", "8||||", "|8|||", "8||8||"},
	} {
		next, uses, sets := lists(t, r.next), lists(t, r.uses), lists(t, r.sets)
		if got := solve.Backward(next, uses, sets); !sameLists(got, lists(t, r.in)) {
			t.Errorf("%q, uses %q, sets %q: %v, not %q", r.next, r.uses, r.sets, got, r.in)
		}
	}
}

// P13.1: the least solutions along the arrows.
func TestForward(t *testing.T) {
	for _, r := range []struct {
		next              string
		entry             int
		start             string
		makes, ends, want string
	}{
		// no nodes, no entry
		{"", 0, "1", "1|", "", ""}, {"|", 0, "", "", "", "|"}, {"|", 1, "1", "1|", "", "|"}, {"|", -1, "1", "1|", "", "|"}, {"1|0|", 2, "1", "1|1|", "", "||"}, {"1|0|", math.MaxInt, "1", "1|1|", "", "||"}, {"1|0|", math.MinInt, "1", "1|1|", "", "||"},
		// what stands ahead of the entry
		{"|", 0, "3", "", "", "3|"}, {"|", 0, "3", "", "3|", "3|"}, {"1||", 0, "3", "", "", "3|3|"}, {"1||", 0, "3", "", "3|", "3||"}, {"1||", 1, "3", "5|", "", "|3|"}, {"|", 0, "4 -1 4", "", "", "-1 4|"},
		// what a node makes stands behind it, whatever it ends
		{"1||", 0, "", "3|", "", "|3|"}, {"1||", 0, "", "3|", "3|", "|3|"}, {"1||", 0, "3", "3|", "3|", "3|3|"}, {"0|", 0, "", "3|", "3|", "3|"}, {"|", 0, "", "3|", "", "|"}, {"1||", 0, "", "|3|", "", "||"}, {"1|2||", 0, "", "3|4|", "|3|", "|3|4|"},
		// lists that are too short, or too long
		{"1|2||", 0, "7", "", "", "7|7|7|"}, {"1|2||", 0, "7", "|8|", "7|", "7||8|"}, {"1|2||", 0, "7", "|||9|", "|||7|", "7|7|7|"}, {"1|2||", 0, "", "1|2|3|4|5|", "", "|1|1 2|"},
		// rising, each once
		{"1||", 0, "9 -9", "5 -3 5|", "", "-9 9|-9 -3 5 9|"}, {"1 1 1||", 0, "", "2 2 1|", "", "|1 2|"}, {"1||", 0, "9223372036854775807", "0 -9223372036854775808|", "", "9223372036854775807|-9223372036854775808 0 9223372036854775807|"},
		// numbers that are no node
		{"1 5 -1||", 0, "", "2|", "", "|2|"}, {"5||", 0, "1", "2|", "", "1||"},
		// nodes that aren't reached make nothing
		{"1|||", 0, "", "|||", "", "|||"}, {"2|2||", 0, "", "3|4||", "", "||3|"}, {"2|2||", 1, "", "3|4||", "", "||4|"}, {"1||1|", 0, "6", "||7|", "", "6|6||"}, {"|1 0|", 0, "", "|7|", "", "||"},
		// ways that part and meet
		{"1 2|3|3||", 0, "1 2", "", "|1|2||", "1 2|1 2|1 2|1 2|"}, {"1 2|3|3||", 0, "1", "", "|1|1||", "1|1|1||"}, {"1 2|3|3||", 0, "", "|4|5||", "", "|||4 5|"},
		// rings
		{"1|2|0|", 0, "", "|7||", "", "7|7|7|"}, {"1|2|0|", 0, "", "|7||", "7||", "7||7|"}, {"1|2|0|", 0, "", "|7||", "||7|", "||7|"}, {"1|2|0|", 0, "7", "", "7||", "7|||"}, {"1|2|0|", 0, "7", "", "||7|", "7|7|7|"}, {"0|", 0, "7", "", "7|", "7|"}, {"1|2 3|1||", 0, "", "1||2||", "|1||", "|1 2|2|2|"},
	} {
		next := lists(t, r.next)
		if got := solve.Forward(next, r.entry, list(t, r.start), lists(t, r.makes), lists(t, r.ends)); !sameLists(got, lists(t, r.want)) {
			t.Errorf("%q from %d with %q, makes %q, ends %q: %v, not %q", r.next, r.entry, r.start, r.makes, r.ends, got, r.want)
		}
	}
}

// equations are what is asked of sets, one thing after the other.
type equations struct {
	next, first, ends [][]int
	backward          bool
	entry             int // of Forward
	start             []int
}

func (e equations) answer() [][]int {
	if e.backward {
		return solve.Backward(e.next, e.first, e.ends)
	}
	return solve.Forward(e.next, e.entry, e.start, e.first, e.ends)
}

// things are those that play a part, and one that doesn't.
func (e equations) things() []int {
	all := slices.Concat(e.start, []int{-99})
	return things(all, slices.Concat(e.first...), slices.Concat(e.ends...))
}

// solved tells whether it is a solution that a thing is in the sets that are told.
func (e equations) solved(x int, in func(i int) bool, reached []bool) bool {
	for i := range e.next {
		if e.backward && has(e.first, i, x) && !in(i) || !e.backward && i == e.entry && slices.Contains(e.start, x) && !in(i) {
			return false
		}
		for _, k := range e.next[i] {
			switch {
			case k < 0 || k >= len(e.next):
			case e.backward && in(k) && !has(e.ends, i, x) && !in(i):
				return false
			case !e.backward && reached[i] && (has(e.first, i, x) || in(i) && !has(e.ends, i, x)) && !in(k):
				return false
			}
		}
	}
	return true
}

// byWays tells whether a thing is in the set of a node, since a way leads from what makes it so.
func (e equations) byWays(x, i int, reached []bool) bool {
	follows := arrows(e.next)
	passes := arrows(e.next)
	for from := range e.next {
		if has(e.ends, from, x) {
			clear(passes[from])
		}
	}
	leads := ways(passes)
	for j := range e.next {
		if e.backward {
			if leads[i][j] && has(e.first, j, x) {
				return true
			}
			continue
		}
		if j == e.entry && leads[j][i] && slices.Contains(e.start, x) {
			return true
		}
		for k := range e.next {
			if reached[j] && has(e.first, j, x) && follows[j][k] && leads[k][i] {
				return true
			}
		}
	}
	return false
}

// check holds an answer against the document's words: the ways by which things come to nodes, and, of few nodes, all solutions that there are.
func (e equations) check(t *testing.T) {
	t.Helper()
	in := e.answer()
	if len(in) != len(e.next) {
		t.Fatalf("%+v: %v", e, in)
	}
	reached := solve.Reach(e.next, e.entry)
	for i, set := range in {
		if !slices.Equal(set, rising(set)) {
			t.Errorf("%+v: %v", e, in)
		}
		for _, x := range set {
			if !slices.Contains(e.things(), x) {
				t.Errorf("%+v: %d in %d", e, x, i)
			}
		}
	}
	for _, x := range e.things() {
		answered := 0
		for i := range in {
			if has(in, i, x) {
				answered |= 1 << i
			}
			if want := e.byWays(x, i, reached); has(in, i, x) != want {
				t.Errorf("%+v: %d in %d: %v", e, x, i, !want)
			}
		}
		if len(in) > 6 {
			continue
		}
		// P13.2: it is a solution, and part of each one.
		for bits := range 1 << len(in) {
			ok := e.solved(x, func(i int) bool { return bits>>i&1 != 0 }, reached)
			if ok && answered&^bits != 0 || !ok && bits == answered {
				t.Errorf("%+v: %d in %b, where %b is a solution: %v", e, x, answered, bits, ok)
			}
		}
	}
}

// byBits is sets of n nodes: the thing x is in that of the node i, where a bit of x is one.
func byBits(n, bits, from int) [][]int {
	sets := make([][]int, n)
	for i := range n {
		for x := range 1 << bits {
			if x>>(from+i)&1 != 0 {
				sets[i] = append(sets[i], x)
			}
		}
	}
	return sets
}

// P13.1, P13.2: all equations of one thing over all graphs of up to three nodes, with each entry.
func TestSmallEquations(t *testing.T) {
	for n := range 4 {
		graphs(n, func(next [][]int) { checkAll(t, next) })
	}
}

// checkAll asks all equations of one thing over a graph at once, each of a thing of its own.
func checkAll(t *testing.T, next [][]int) {
	n := len(next)
	first, ends := byBits(n, 2*n+1, 0), byBits(n, 2*n+1, n)
	equations{next: next, first: first, ends: ends, backward: true}.check(t)
	var start []int
	for x := range 1 << (2*n + 1) {
		if x>>(2*n)&1 != 0 {
			start = append(start, x)
		}
	}
	for entry := -1; entry <= n; entry++ {
		equations{next: next, first: first, ends: ends, entry: entry, start: start}.check(t)
	}
}

// P13.1, P13.2: equations over greater graphs, with lists in no order, too short and too long, and numbers that are no node.
func TestGrownEquations(t *testing.T) {
	r := rand.New(rand.NewPCG(13, 2))
	for range 600 {
		n := 1 + r.IntN(9)
		e := equations{
			next:     someLists(r, n, 1+r.IntN(3), -1, n+1),
			first:    someLists(r, r.IntN(n+3), 2, -2, 4),
			ends:     someLists(r, r.IntN(n+3), 2, -2, 4),
			backward: r.IntN(2) == 0,
		}
		if !e.backward {
			e.entry, e.start = r.IntN(n+1), someList(r, 3, -2, 4)
		}
		e.check(t)
	}
}
