package same

import (
	"alembic/api"
	"alembic/arrows"
	"alembic/solve"
)

// Blocks are the rows of instructions of a function.
func Blocks(f api.Graph) [][]int {
	next := arrows.Of(f.Code)
	order := solve.Order(next, f.Entry)
	begins := beginnings(f, next, order)
	var rows [][]int
	for _, first := range order {
		if begins[first] {
			rows = append(rows, rowFrom(first, next, begins))
		}
	}
	return rows
}

// beginnings tell of each instruction whether a row begins with it, of those that are reached.
func beginnings(f api.Graph, next [][]int, order []int) []bool {
	begins, come := make([]bool, len(next)), make([]bool, len(next))
	enter := func(n int, first bool) {
		if n >= 0 && n < len(next) {
			begins[n] = begins[n] || first || come[n]
			come[n] = true
		}
	}
	enter(f.Entry, true)
	for _, n := range order {
		for _, k := range next[n] {
			enter(k, f.Code[n].Kind == api.ICond)
		}
	}
	return begins
}

// rowFrom is the row that begins with an instruction.
func rowFrom(first int, next [][]int, begins []bool) []int {
	row := []int{first}
	for n := first; ; {
		if len(next[n]) != 1 {
			return row
		}
		n = next[n][0]
		if n < 0 || n >= len(next) || begins[n] {
			return row
		}
		row = append(row, n)
	}
}
