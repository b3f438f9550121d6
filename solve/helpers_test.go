package solve_test

import (
	"math/rand/v2"
	"slices"
	"strconv"
	"strings"
	"testing"
)

// list is the numbers of a text.
func list(t *testing.T, text string) []int {
	t.Helper()
	var made []int
	for _, word := range strings.Fields(text) {
		n, err := strconv.Atoi(word)
		if err != nil {
			t.Fatal(err)
		}
		made = append(made, n)
	}
	return made
}

// lists are the lists of a text, each one ended by a stroke.
func lists(t *testing.T, text string) [][]int {
	t.Helper()
	var made [][]int
	for part := range strings.SplitAfterSeq(text, "|") {
		if rest, ok := strings.CutSuffix(part, "|"); ok {
			made = append(made, list(t, rest))
		} else if strings.TrimSpace(part) != "" {
			t.Fatalf("%q has no stroke", part)
		}
	}
	return made
}

func sameLists(a, b [][]int) bool { return slices.EqualFunc(a, b, slices.Equal[[]int]) }

// arrows is a graph as a table: whether a node follows another one.
func arrows(next [][]int) [][]bool {
	table := make([][]bool, len(next))
	for i, followers := range next {
		table[i] = make([]bool, len(next))
		for k := range next {
			table[i][k] = slices.Contains(followers, k)
		}
	}
	return table
}

// ways tells of any two nodes whether a way leads from the one to the other, of no step for the node itself.
func ways(follows [][]bool) [][]bool {
	n := len(follows)
	leads := make([][]bool, n)
	for i := range n {
		leads[i] = slices.Clone(follows[i])
		leads[i][i] = true
	}
	for over := range n {
		for i := range n {
			for k := range n {
				leads[i][k] = leads[i][k] || leads[i][over] && leads[over][k]
			}
		}
	}
	return leads
}

// at is the list of a node, empty where there is none.
func at(sets [][]int, i int) []int {
	if i < len(sets) {
		return sets[i]
	}
	return nil
}

// has tells whether a node's list has a number.
func has(sets [][]int, i, x int) bool { return slices.Contains(at(sets, i), x) }

// rising is a list as a set.
func rising(list []int) []int { return slices.Compact(slices.Sorted(slices.Values(list))) }

// things are all numbers that stand in any of the sets.
func things(all ...[]int) []int { return rising(slices.Concat(all...)) }

// someLists are a number of lists of numbers, each from a least one on and below another.
func someLists(r *rand.Rand, lists, longest, least, below int) [][]int {
	var made [][]int
	for range lists {
		made = append(made, someList(r, longest, least, below))
	}
	return made
}

func someList(r *rand.Rand, longest, least, below int) []int {
	var made []int
	for range r.IntN(longest + 1) {
		made = append(made, least+r.IntN(below-least))
	}
	return made
}

// graphs are all graphs of n nodes whose lists are rising.
func graphs(n int, do func(next [][]int)) {
	for bits := range 1 << (n * n) {
		next := make([][]int, n)
		for i := range n {
			for k := range n {
				if bits>>(i*n+k)&1 != 0 {
					next[i] = append(next[i], k)
				}
			}
		}
		do(next)
	}
}
