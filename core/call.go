package core

import (
	"slices"

	"alembic/api"
	"alembic/mach"
	"alembic/trace"
)

// activation is a call of a function of the unit that goes on.
type activation struct {
	code   *code
	at     int // which step of the code is next
	caller *activation
	blocks map[int]int // of the locals that were used, and of the frame
	temps  map[int]api.Value
}

// frame is the number under which the frame's block stands among those of the locals.
const frame = -1

// function is what can be called.
type function struct {
	sig  api.Sig
	call func(m *machine, args []api.Value)
}

// outside is a function from outside.
type outside api.Extern

// call calls the function at an address, as one of a signature.
func (m *machine) call(at api.Value, args []api.Value, sig api.Sig) {
	f, ok := m.functions[at.Block]
	if !ok || at != mach.PtrOf(at.Block, 0) || !sameSig(sig, f.sig) {
		m.wrong()
	}
	f.call(m, args)
}

// sameSig tells whether two signatures have the same kinds.
func sameSig(a, b api.Sig) bool {
	return a.Result == b.Result && slices.Equal(a.Params, b.Params)
}

// call tells what was called, and goes on with the answer.
func (o outside) call(m *machine, args []api.Value) {
	e, ok := trace.Call(o.Name, o.Sig, args, m.script, len(m.trace))
	if !ok {
		m.wrong()
	}
	m.trace = append(m.trace, e)
	m.push(e.Result)
}

// enter begins an activation.
func (c *code) enter(m *machine, args []api.Value) {
	if len(args) != len(c.f.Params) {
		m.wrong()
	}
	if m.calls == api.MaxCalls {
		panic(ending{status: api.Running})
	}
	m.step()
	if c.steps == nil {
		c.steps = written(c.f, m.symbols)
	}
	m.now = &activation{code: c, caller: m.now, blocks: map[int]int{}, temps: map[int]api.Value{}}
	m.calls++
	for i, v := range args {
		m.receive(c.f.Params[i], v)
	}
}

// receive gives a parameter its value.
func (m *machine) receive(param int, v api.Value) {
	locals := m.now.code.f.Locals
	switch {
	case param < 0:
		m.now.temps[-1-param] = v
	case param < len(locals):
		m.store(locals[param].Chunk, m.own(param, locals[param].Size, 0), v)
	default:
		m.wrong()
	}
}

// leave ends the activation with a result.
func (m *machine) leave() {
	a, v := m.now, m.pop()
	for _, b := range a.blocks {
		m.mem.Free(b)
	}
	if a.code.f.Sig.Result == 0 {
		v = api.Value{}
	}
	m.now = a.caller
	m.calls--
	if m.now == nil {
		exit(v)
	}
	m.push(v)
}

// exit ends the run with main's result.
func exit(v api.Value) {
	if v.Kind != api.Int {
		panic(ending{status: api.Wrong})
	}
	panic(ending{status: api.Exited, code: int32(v.Bits)})
}

// own is an address in the block of one of the activation's locals, or of its frame. Nothing in a run tells when a block was made: it is made when it is first asked for, so that a call costs no more than what it uses.
func (m *machine) own(n, size, off int) api.Value {
	b, ok := m.now.blocks[n]
	if !ok {
		b = m.mem.Alloc(size)
		m.now.blocks[n] = b
	}
	return mach.PtrOf(b, int64(off))
}
