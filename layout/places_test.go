package layout_test

import (
	"fmt"
	"slices"
	"testing"

	"alembic/api"
	"alembic/layout"
)

// P11.1, P11.2: where slots have their places, and how many bytes there are.
func TestPlaces(t *testing.T) {
	for _, r := range []struct {
		slots  []api.Slot
		places []int
		size   int
	}{
		{nil, nil, 0},
		{[]api.Slot{}, nil, 0},
		// the document's examples
		{[]api.Slot{{Size: 1, Align: 1}, {Size: 4, Align: 4}, {Size: 16, Align: 8}}, []int{0, 4, 8}, 24},
		{[]api.Slot{{Size: 1, Align: 1}, {Size: 9, Align: 1}}, []int{0, 8}, 24},
		// what a block of its own would be aligned for
		{[]api.Slot{{Size: 1, Align: 1}, {Size: 1, Align: 1}, {Size: 1, Align: 1}}, []int{0, 1, 2}, 8},
		{[]api.Slot{{Size: 1, Align: 1}, {Size: 2, Align: 1}}, []int{0, 2}, 8},
		{[]api.Slot{{Size: 1, Align: 1}, {Size: 3, Align: 1}}, []int{0, 2}, 8},
		{[]api.Slot{{Size: 1, Align: 1}, {Size: 4, Align: 1}}, []int{0, 4}, 8},
		{[]api.Slot{{Size: 1, Align: 1}, {Size: 7, Align: 1}}, []int{0, 4}, 16},
		{[]api.Slot{{Size: 1, Align: 1}, {Size: 8, Align: 1}}, []int{0, 8}, 16},
		{[]api.Slot{{Size: 1, Align: 1}, {Size: 12, Align: 4}}, []int{0, 8}, 24},
		{[]api.Slot{{Size: 5, Align: 1}, {Size: 1, Align: 1}}, []int{0, 5}, 8},
		// alignments of their own
		{[]api.Slot{{Size: 1, Align: 1}, {Size: 1, Align: 8}}, []int{0, 8}, 16},
		{[]api.Slot{{Size: 1, Align: 1}, {Size: 1, Align: 3}}, []int{0, 3}, 8},
		{[]api.Slot{{Size: 1, Align: 1}, {Size: 2, Align: 4}}, []int{0, 4}, 8},
		{[]api.Slot{{Size: 1, Align: 1}, {Size: 1, Align: 0}, {Size: 1, Align: -4}, {Size: 2, Align: -1}}, []int{0, 1, 2, 4}, 8},
		// sizes of nothing
		{[]api.Slot{{Size: 0, Align: 1}, {Size: 0, Align: 1}}, []int{0, 0}, 0},
		{[]api.Slot{{Size: 3, Align: 1}, {Size: 0, Align: 1}, {Size: -5, Align: 4}, {Size: 1, Align: 1}}, []int{0, 3, 4, 4}, 8},
		{[]api.Slot{{Size: 3, Align: 1}, {Size: 0, Align: 8}}, []int{0, 8}, 8},
		{[]api.Slot{{Size: 8, Align: 8}, {Size: 0, Align: 8}}, []int{0, 8}, 8},
		{[]api.Slot{{Size: -1, Align: -1}, {Size: 8, Align: 8}}, []int{0, 0}, 8},
		// great ones; a chunk plays no part
		{[]api.Slot{{Size: api.MaxFrame - 16, Align: 8}, {Size: 1, Align: 1}, {Size: 8, Align: 8, Chunk: api.C64}}, []int{0, api.MaxFrame - 16, api.MaxFrame - 8}, api.MaxFrame},
		{[]api.Slot{{Size: 1, Align: 1, Chunk: api.C64}, {Size: 4, Align: 4, Chunk: api.C8S}}, []int{0, 4}, 8},
	} {
		given := slices.Clone(r.slots)
		places, size := layout.Places(given)
		if !slices.Equal(places, r.places) || size != r.size {
			t.Errorf("%v: %v, %d, not %v, %d", r.slots, places, size, r.places, r.size)
		}
		if !slices.Equal(given, r.slots) {
			t.Errorf("%v was changed: %v", r.slots, given)
		}
	}
}

// needed is the alignment that the document asks of a slot.
func needed(s api.Slot) int {
	n := max(s.Align, 1)
	for _, size := range []int{2, 4, 8} {
		if s.Size >= size {
			n = max(n, size)
		}
	}
	return n
}

// P11.2: places are aligned, each the least that may be, and they don't meet.
func TestPlacesOfScattered(t *testing.T) {
	n := uint64(1)
	below := func(m int) int {
		n = n*6364136223846793005 + 1442695040888963407
		return int(n >> 33 % uint64(m))
	}
	for range 5000 {
		slots := make([]api.Slot, below(9))
		for i := range slots {
			slots[i] = api.Slot{Size: below(20) - 2, Align: below(10) - 1}
		}
		places, size := layout.Places(slots)
		if fault := faultOf(slots, places, size); fault != "" {
			t.Fatalf("%v: %v, %d: %s", slots, places, size, fault)
		}
	}
}

// faultOf tells what isn't as the document says of places, or nothing.
func faultOf(slots []api.Slot, places []int, size int) string {
	if len(places) != len(slots) {
		return "as many as slots"
	}
	end := 0
	for i, s := range slots {
		least := end
		for least%needed(s) != 0 {
			least++
		}
		if places[i] != least {
			return fmt.Sprintf("the place of %d isn't %d", i, least)
		}
		end = least + max(s.Size, 0)
	}
	for i := range slots {
		for k := range i {
			if slots[i].Size > 0 && slots[k].Size > 0 && places[i] < places[k]+slots[k].Size && places[k] < places[i]+slots[i].Size {
				return fmt.Sprintf("%d and %d meet", k, i)
			}
		}
	}
	if size%8 != 0 || size < end || size-8 >= end {
		return "the bytes of all"
	}
	return ""
}

// Slots of which nothing is promised are answered without a panic.
func TestOddSlots(t *testing.T) {
	const great = 1<<63 - 1
	for _, slots := range [][]api.Slot{
		{{Size: great, Align: 1}, {Size: 1, Align: 1}},
		{{Size: great, Align: great}, {Size: great, Align: great}},
		{{Size: 1, Align: great}, {Size: -great - 1, Align: -great - 1}},
		{{Size: great, Align: 8}, {Size: great, Align: 8}, {Size: 1, Align: 8}},
	} {
		if places, _ := layout.Places(slots); len(places) != len(slots) {
			t.Errorf("%v: %v", slots, places)
		}
	}
}
