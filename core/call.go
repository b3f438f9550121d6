package core

import (
	"alembic/api"
	"alembic/world"
)

// activation is a call of a function of the unit that goes on.
type activation struct {
	code   *code
	at     int // which step of the code is next
	caller *activation
	blocks map[int]api.Value // the addresses of the locals that were used, and of the frame
	temps  map[int]api.Value
}

// frame is the number under which the frame's block stands among those of the locals.
const frame = -1

// call calls the function at an address, as one of a signature.
func (m *machine) call(at api.Value, args []api.Value, sig api.Sig) {
	f, ok := m.Called(at, sig)
	m.must(ok)
	if f.N == world.Outside {
		m.push(m.meant(m.Tell(f, args)))
		return
	}
	m.codes[f.N].enter(m, args)
}

// enter begins an activation.
func (c *code) enter(m *machine, args []api.Value) {
	m.must(len(args) == len(c.f.Params))
	if m.calls == api.MaxCalls {
		panic(ending{status: api.Running})
	}
	m.step()
	if c.steps == nil {
		c.steps = written(c.f, m.Address)
	}
	m.now = &activation{code: c, caller: m.now, blocks: map[int]api.Value{}, temps: map[int]api.Value{}}
	m.calls++
	for i, v := range args {
		m.receive(c.f.Params[i], v)
	}
}

// receive gives a parameter its value.
func (m *machine) receive(param int, v api.Value) {
	if param < 0 {
		m.now.temps[-1-param] = v
		return
	}
	locals := m.now.code.f.Locals
	m.must(param < len(locals))
	m.must(m.Store(locals[param].Chunk, m.own(param, locals[param].Size), 0, v))
}

// leave ends the activation with a result.
func (m *machine) leave() {
	a, v := m.now, m.pop()
	for _, at := range a.blocks {
		m.Free(at)
	}
	if a.code.f.Sig.Result == 0 {
		v = api.Value{}
	}
	m.now = a.caller
	m.calls--
	if m.now == nil {
		status, code := world.Exit(v)
		panic(ending{status, code})
	}
	m.push(v)
}

// own is the address of one of the activation's locals, or of its frame. Nothing in a run tells when a block was made: it is made when it is first asked for, so that a call costs no more than what it uses.
func (m *machine) own(n, size int) api.Value {
	at, ok := m.now.blocks[n]
	if !ok {
		at = m.Room(size)
		m.now.blocks[n] = at
	}
	return at
}
