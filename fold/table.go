package fold

// fan is how many parts a node has, 1 << fanBits.
const (
	fanBits = 3
	fan     = 1 << fanBits
)

// node is a part of a row: the numbers of smaller parts, at last of facts.
type node struct{ parts [fan]int32 }

// table holds facts, and rows: what is known of all registers at a time. A row is a tree of nodes. Each fact and node stands in it once, and has a number, 0 where nothing is known: so rows share what they have alike, and are the same just if their numbers are.
type table struct {
	registers int
	levels    int
	facts     []fact
	nodes     []node
	factsAt   map[fact]int32
	nodesAt   map[node]int32
	met       map[pair]int32 // what both tell, of nodes that met
}

// pair is two nodes on a level.
type pair struct {
	a, b  int32
	level int
}

// newTable is a table for rows about so many registers.
func newTable(registers int) *table {
	t := &table{registers: registers, facts: []fact{{}}, nodes: []node{{}}, factsAt: map[fact]int32{{}: 0}, nodesAt: map[node]int32{{}: 0}, met: map[pair]int32{}}
	for size := 1; size < registers; size *= fan {
		t.levels++
	}
	return t
}

// enter is the number of a thing in a list that has each once.
func enter[T comparable](list *[]T, at map[T]int32, x T) int32 {
	n, ok := at[x]
	if !ok {
		n = int32(len(*list))
		*list = append(*list, x)
		at[x] = n
	}
	return n
}

// part is which part of a node on a level a register stands in.
func part(register, level int) int { return register >> (fanBits * (level - 1)) % fan }

// has tells whether a register is one that rows tell of.
func (t *table) has(register int) bool { return register >= 0 && register < t.registers }

// fact is what a row tells of a register.
func (t *table) fact(row int32, register int) fact {
	if !t.has(register) {
		return fact{}
	}
	for level := t.levels; level > 0; level-- {
		row = t.nodes[row].parts[part(register, level)]
	}
	return t.facts[row]
}

// with is a row that tells this of a register.
func (t *table) with(row int32, register int, x fact) int32 {
	if !t.has(register) {
		return row
	}
	return t.withPart(row, register, t.levels, enter(&t.facts, t.factsAt, x))
}

func (t *table) withPart(row int32, register, level int, x int32) int32 {
	if level == 0 {
		return x
	}
	n := t.nodes[row]
	at := &n.parts[part(register, level)]
	*at = t.withPart(*at, register, level-1, x)
	return enter(&t.nodes, t.nodesAt, n)
}

// both is the row of what two rows tell.
func (t *table) both(a, b int32) int32 { return t.bothParts(a, b, t.levels) }

func (t *table) bothParts(a, b int32, level int) int32 {
	switch {
	case a == b:
		return a
	case level == 0 || a == 0 || b == 0:
		return 0
	}
	p := pair{a, b, level}
	both, met := t.met[p]
	if !met {
		n := t.nodes[a]
		for i, other := range t.nodes[b].parts {
			n.parts[i] = t.bothParts(n.parts[i], other, level-1)
		}
		both = enter(&t.nodes, t.nodesAt, n)
		t.met[p] = both
	}
	return both
}

// each calls a closure with each register of which a row tells something.
func (t *table) each(row int32, do func(register int, x fact)) { t.eachPart(row, 0, t.levels, do) }

func (t *table) eachPart(row int32, register, level int, do func(register int, x fact)) {
	switch {
	case row == 0:
		return
	case level == 0:
		do(register, t.facts[row])
		return
	}
	for i, part := range t.nodes[row].parts {
		t.eachPart(part, register<<fanBits+i, level-1, do)
	}
}
