package core

import (
	"alembic/api"
	"alembic/mach"
	"alembic/world"
)

// machine runs a unit. All that a run has begun stands in its lists and not in Go's own calls, so that neither deep expressions nor deep calls use these up.
type machine struct {
	*world.World
	codes   []*code // of the unit's functions
	picks   []int   // those that are left
	now     *activation
	calls   int // how many activations there are
	values  []api.Value
	ways    []int // within expressions: where code goes on, the next one at last
	changes []change
}

func newMachine(picks []int, script []int64, fuel int) *machine {
	return &machine{World: world.New(script, fuel), picks: picks}
}

// begin lays the variables and functions of a unit.
func (m *machine) begin(u api.Unit) {
	var own []world.Function
	for _, f := range u.Funcs {
		own = append(own, world.Function{Name: f.Name, Sig: f.Sig})
		m.codes = append(m.codes, &code{f: f})
	}
	m.must(m.Begin(u.Vars, u.Externs, own))
}

// run calls main and does what it says, till an ending is thrown.
func (m *machine) run() {
	n, ok := m.Main()
	m.must(ok)
	m.codes[n].enter(m, nil)
	for {
		a := m.now
		a.at++
		a.code.steps[a.at-1](m)
	}
}

func (m *machine) wrong() { panic(ending{status: api.Wrong}) }

// must ends the run where something has no meaning.
func (m *machine) must(meant bool) {
	if !meant {
		m.wrong()
	}
}

// meant is a value that must have a meaning.
func (m *machine) meant(v api.Value, ok bool) api.Value {
	m.must(ok)
	return v
}

// step takes one of the steps that the fuel allows.
func (m *machine) step() {
	if !m.Step() {
		panic(ending{status: api.Running})
	}
}

// truth is whether a value isn't zero.
func (m *machine) truth(v api.Value) bool {
	holds, ok := mach.Truth(v)
	m.must(ok)
	return holds
}

func (m *machine) push(v api.Value) { m.values = append(m.values, v) }

func (m *machine) pop() api.Value { return m.take(1)[0] }

// take is the values that were pushed last, which stay as they are till others are pushed.
func (m *machine) take(n int) []api.Value {
	rest := len(m.values) - n
	top := m.values[rest:]
	m.values = m.values[:rest]
	return top
}

// pick is the next pick, 0 where none are left.
func (m *machine) pick() int {
	if len(m.picks) == 0 {
		return 0
	}
	p := m.picks[0]
	m.picks = m.picks[1:]
	return p
}

// back goes on where that was put off last.
func (m *machine) back() {
	last := len(m.ways) - 1
	m.now.at = m.ways[last]
	m.ways = m.ways[:last]
}
