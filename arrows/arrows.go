// Package arrows tells which instructions of a function of RTL go on to which. The layers over RTL share it.
package arrows

import (
	"alembic/api"
)

// Of are of each instruction those that it may go on to: of an ICond Next, then Else.
func Of(code []api.Instr) [][]int {
	next := make([][]int, len(code))
	for n, i := range code {
		for _, to := range Ends(&i) {
			next[n] = append(next[n], *to)
		}
	}
	return next
}

// Ends are the numbers that an instruction goes on to, where they stand in it.
func Ends(i *api.Instr) []*int {
	switch i.Kind {
	case api.ICond:
		return []*int{&i.Next, &i.Else}
	case api.ITail, api.IReturn:
		return nil
	}
	return []*int{&i.Next}
}
