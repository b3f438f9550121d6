package layout

import (
	"alembic/api"
)

// Places are the slots' offsets, and the bytes of all.
func Places(slots []api.Slot) ([]int, int) {
	places := make([]int, len(slots))
	end := 0
	for i, s := range slots {
		places[i] = roundUp(end, alignment(s))
		end = places[i] + max(s.Size, 0)
	}
	return places, roundUp(end, 8)
}

// alignment is a slot's own one, but as much as chunks need that a block of its own would have room for: such a block begins aligned for all of them.
func alignment(s api.Slot) int {
	switch {
	case s.Size >= 8:
		return max(s.Align, 8)
	case s.Size >= 4:
		return max(s.Align, 4)
	case s.Size >= 2:
		return max(s.Align, 2)
	}
	return max(s.Align, 1)
}

// roundUp is the least multiple of a number that isn't below n.
func roundUp(n, of int) int { return (n + of - 1) / of * of }
