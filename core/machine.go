package core

import (
	"alembic/api"
	"alembic/mach"
	"alembic/memory"
)

// machine runs a unit. All that a run has begun stands in its lists and not in Go's own calls, so that neither deep expressions nor deep calls use these up.
type machine struct {
	mem         *memory.Memory
	zeros       zeros
	symbols     map[string]int   // the blocks of variables and functions
	functions   map[int]function // by their blocks
	main        *code
	picks       []int // those that are left
	script      []int64
	fuel, taken int // how many steps may be taken, and were
	trace       []api.Event
	now         *activation
	calls       int // how many activations there are
	values      []api.Value
	ways        []int // within expressions: where code goes on, the next one at last
	changes     []change
}

func newMachine(picks []int, script []int64, fuel int) *machine {
	mem := memory.New()
	return &machine{
		mem:       mem,
		zeros:     zeros{mem: mem, laid: map[piece]struct{}{}},
		symbols:   map[string]int{},
		functions: map[int]function{},
		picks:     picks,
		script:    script,
		fuel:      min(max(fuel, 0), api.MaxFuel),
	}
}

// run calls main and does what it says, till an ending is thrown.
func (m *machine) run() {
	if m.main == nil {
		m.wrong()
	}
	m.main.enter(m, nil)
	for {
		a := m.now
		a.at++
		a.code.steps[a.at-1](m)
	}
}

func (m *machine) wrong() { panic(ending{status: api.Wrong}) }

// step takes one of the steps that the fuel allows.
func (m *machine) step() {
	if m.taken >= m.fuel {
		panic(ending{status: api.Running})
	}
	m.taken++
}

// load is what stands at an address.
func (m *machine) load(chunk int, at api.Value) api.Value {
	m.zeros.lay(at)
	return m.meant(m.mem.Load(chunk, at))
}

// store puts a value at an address.
func (m *machine) store(chunk int, at, v api.Value) {
	m.zeros.lay(at)
	if !m.mem.Store(chunk, at, v) {
		m.wrong()
	}
}

// meant is a value that must have a meaning.
func (m *machine) meant(v api.Value, ok bool) api.Value {
	if !ok {
		m.wrong()
	}
	return v
}

// truth is whether a value isn't zero.
func (m *machine) truth(v api.Value) bool {
	holds, ok := mach.Truth(v)
	if !ok {
		m.wrong()
	}
	return holds
}

func (m *machine) push(v api.Value) { m.values = append(m.values, v) }

func (m *machine) pop() api.Value { return m.take(1)[0] }

// take is the values that were pushed last, which stay as they are till others are pushed.
func (m *machine) take(n int) []api.Value {
	rest := len(m.values) - n
	top := m.values[rest:]
	m.values = m.values[:rest]
	return top
}

// pick is the next pick, 0 where none are left.
func (m *machine) pick() int {
	if len(m.picks) == 0 {
		return 0
	}
	p := m.picks[0]
	m.picks = m.picks[1:]
	return p
}

// back goes on where that was put off last.
func (m *machine) back() {
	last := len(m.ways) - 1
	m.now.at = m.ways[last]
	m.ways = m.ways[:last]
}
