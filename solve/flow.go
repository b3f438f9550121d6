package solve

import "slices"

// set is a set of numbers.
type set map[int]struct{}

func newSet(list []int) set {
	s := set{}
	for _, x := range list {
		s.add(x)
	}
	return s
}

func (s set) add(x int) { s[x] = struct{}{} }

func (s set) has(x int) bool {
	_, ok := s[x]
	return ok
}

// holders are, of each thing in sets of n nodes, the nodes whose sets have it.
func holders(sets [][]int, n int) map[int]set {
	held := map[int]set{}
	for i, list := range sets[:min(n, len(sets))] {
		for _, x := range list {
			if held[x] == nil {
				held[x] = set{}
			}
			held[x].add(i)
		}
	}
	return held
}

// flow is how things come along arrows from node to node: what stands ahead of a node stands behind it, too, unless the node ends it; so does what the node makes; and what stands behind a node stands ahead of those to which its arrows lead.
type flow struct {
	arrows        [][]int     // from each node to others
	makes, ends   map[int]set // of each thing the nodes that make it, and that end it
	entry         int
	start         set    // what stands ahead of the entry anyhow
	ahead, behind *visit // of what nodes the thing in hand stands ahead, and behind
}

func newFlow(arrows, makes, ends [][]int) *flow {
	n := len(arrows)
	return &flow{arrows: arrows, makes: holders(makes, n), ends: holders(ends, n), ahead: newVisit(n), behind: newVisit(n)}
}

// sets are, of each node, the things on a side of it.
func (f *flow) sets(side *visit) [][]int {
	sets := make([][]int, len(f.arrows))
	for _, x := range f.things() {
		f.spread(x)
		side.each(func(i int) { sets[i] = append(sets[i], x) })
	}
	return sets
}

// things are all that may stand anywhere. They are rising, so that each set is.
func (f *flow) things() []int {
	var list []int
	for x := range f.makes {
		list = append(list, x)
	}
	for x := range f.start {
		list = append(list, x)
	}
	slices.Sort(list)
	return slices.Compact(list)
}

// spread finds where a thing stands. It looks at one thing alone, since none hangs on another.
func (f *flow) spread(x int) {
	f.ahead.forget()
	f.behind.forget()
	ends := f.ends[x]
	enter := func(i int) {
		if f.ahead.come(i) && !ends.has(i) {
			f.behind.come(i)
		}
	}
	if f.start.has(x) {
		enter(f.entry)
	}
	for i := range f.makes[x] {
		f.behind.come(i)
	}
	f.behind.each(func(i int) {
		for _, k := range f.arrows[i] {
			enter(k)
		}
	})
}
