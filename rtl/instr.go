package rtl

import (
	"alembic/api"
	"alembic/mach"
	"alembic/world"
)

// next does the next instruction.
func (m *machine) next() bool {
	a := m.now
	if a.at < 0 || a.at >= len(a.f.Code) {
		return false
	}
	i := a.f.Code[a.at]
	a.at = i.Next
	switch i.Kind {
	case api.INop:
		return true
	case api.IOp, api.ILoad:
		v, ok := m.value(i)
		a.set(i.Dst, v)
		return ok
	case api.IStore:
		return m.Store(i.Chunk, a.arg(i, 0), i.Off, a.arg(i, 1))
	case api.ICond:
		holds, ok := mach.Truth(a.arg(i, 0))
		if !holds {
			a.at = i.Else
		}
		return ok
	}
	return m.pass(i)
}

// pass does an instruction by which another activation goes on.
func (m *machine) pass(i api.Instr) bool {
	a := m.now
	switch i.Kind {
	case api.ICall:
		a.dst = i.Dst
	case api.ITail, api.IReturn:
		m.leave()
	default:
		return false
	}
	if i.Kind == api.IReturn {
		m.back(a.arg(i, 0))
		return true
	}
	at, args, ok := m.called(i, a.args(i))
	return ok && m.call(at, args, i.Sig)
}

// called is the address of what an instruction calls, and the arguments.
func (m *machine) called(i api.Instr, args []api.Value) (api.Value, []api.Value, bool) {
	if i.Sym != "" {
		at, ok := m.Address(i.Sym)
		return at, args, ok
	}
	if len(args) == 0 {
		return api.Value{}, nil, false
	}
	return args[0], args[1:], true
}

// value is what an instruction puts into its Dst.
func (m *machine) value(i api.Instr) (api.Value, bool) {
	x := m.now.arg(i, 0)
	if i.Kind == api.ILoad {
		return m.Load(i.Chunk, x, i.Off)
	}
	switch i.Op {
	case api.OpMove:
		return x, true
	case api.OpNum:
		return i.V, true
	case api.OpGlobal:
		at, ok := m.Address(i.Sym)
		return world.Behind(at, i.Off), ok
	case api.OpFrame:
		return world.Behind(m.frame(), i.Off), true
	}
	return m.operation(i, x, m.now.arg(i, 1))
}

// operation is one of one or two values, or of one and a number.
func (m *machine) operation(i api.Instr, x, y api.Value) (api.Value, bool) {
	if i.Op > api.WithN {
		y, ok := world.Number(i.Op-api.WithN, i.N)
		if !ok {
			return y, false
		}
		return m.Eval2(i.Op-api.WithN, x, y)
	}
	if _, kind, _ := mach.Shape(i.Op); kind == 0 {
		return mach.Eval1(i.Op, x)
	}
	return m.Eval2(i.Op, x, y)
}
