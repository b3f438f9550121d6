package rtl

import (
	"alembic/api"
	"alembic/world"
)

// machine runs a program. What has no meaning is answered by false.
type machine struct {
	*world.World
	funcs  []api.Graph
	now    *activation // none behind the end
	result api.Value   // main's
}

// activation is a call of a function of the program that goes on.
type activation struct {
	f         api.Graph
	at        int // the number of the next instruction
	caller    *activation
	dst       int       // where the result of the call that goes on is put, -1: nowhere
	frame     api.Value // the address of its block, once it was asked for
	registers map[int]api.Value
}

// run is how main ends.
func (m *machine) run(g api.Graphs) (status int, code int32) {
	if !m.begin(g) {
		return api.Wrong, 0
	}
	for m.now != nil {
		if !m.Step() {
			return api.Running, 0
		}
		if !m.next() {
			return api.Wrong, 0
		}
	}
	return world.Exit(m.result)
}

// begin lays the program, and calls main.
func (m *machine) begin(g api.Graphs) bool {
	var own []world.Function
	for _, f := range g.Funcs {
		own = append(own, world.Function{Name: f.Name, Sig: f.Sig})
	}
	if !m.Begin(g.Vars, g.Externs, own) {
		return false
	}
	n, ok := m.Main()
	return ok && m.enter(n, nil)
}

// enter begins an activation.
func (m *machine) enter(n int, args []api.Value) bool {
	f := m.funcs[n]
	a := &activation{f: f, at: f.Entry, caller: m.now, registers: map[int]api.Value{}}
	if len(args) != len(f.Params) {
		return false
	}
	for i, v := range args {
		a.set(f.Params[i], v)
	}
	m.now = a
	return true
}

// leave ends the activation: its frame is freed, and its caller is there again.
func (m *machine) leave() {
	m.Free(m.now.frame)
	m.now = m.now.caller
}

// back gives a result to the call that goes on; without one it is main's.
func (m *machine) back(v api.Value) {
	if m.now == nil {
		m.result = v
		return
	}
	m.now.set(m.now.dst, v)
}

// call calls what is at an address.
func (m *machine) call(at api.Value, args []api.Value, sig api.Sig) bool {
	f, ok := m.Called(at, sig)
	if !ok {
		return false
	}
	if f.N != world.Outside {
		return m.enter(f.N, args)
	}
	v, ok := m.Tell(f, args)
	m.back(v)
	return ok
}

// frame is the address of the activation's frame. Nothing in a run tells when its block was made: it is made when it is first asked for, so that a call costs no more than what it uses.
func (m *machine) frame() api.Value {
	if m.now.frame.Kind == api.Undef {
		m.now.frame = m.Room(m.now.f.Frame)
	}
	return m.now.frame
}

// set puts a value into a register; into -1 nothing is put.
func (a *activation) set(register int, v api.Value) {
	if register >= 0 {
		a.registers[register] = v
	}
}

// arg is the value of an instruction's n-th Arg.
func (a *activation) arg(i api.Instr, n int) api.Value {
	if n >= len(i.Args) {
		return api.Value{}
	}
	return a.registers[i.Args[n]]
}

// args are the values of an instruction's Args.
func (a *activation) args(i api.Instr) []api.Value {
	var list []api.Value
	for n := range i.Args {
		list = append(list, a.arg(i, n))
	}
	return list
}
