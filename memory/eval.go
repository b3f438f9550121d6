package memory

import (
	"alembic/api"
	"alembic/mach"
)

// Eval2 is an operation of two, pointers of unlike blocks among them.
func (m *Memory) Eval2(op int, x, y api.Value) (api.Value, bool) {
	if x.Kind != api.Ptr || y.Kind != api.Ptr {
		return mach.Eval2(op, x, y)
	}
	switch {
	case isEquality(op) && x.Block != y.Block && m.in(x) && m.in(y):
		if op == api.OpEq+api.OfLong {
			return mach.IntOf(0), true
		}
		return mach.IntOf(1), true
	case isOrder(op) && !(m.inOrAtEnd(x) && m.inOrAtEnd(y)):
		return api.Value{}, false
	}
	return mach.Eval2(op, x, y)
}

func isEquality(op int) bool {
	return op == api.OpEq+api.OfLong || op == api.OpNe+api.OfLong
}

// isOrder tells whether an operation asks which of two Longs is less.
func isOrder(op int) bool {
	return op >= api.OpLt+api.OfLong && op <= api.OpGeU+api.OfLong
}

// in tells whether an address is in its block.
func (m *Memory) in(at api.Value) bool {
	b, off := m.addressed(at), int(at.Bits)
	return b != nil && off >= 0 && off < b.size
}

// inOrAtEnd tells whether an address is in its block, or right behind its last byte.
func (m *Memory) inOrAtEnd(at api.Value) bool {
	b, off := m.addressed(at), int(at.Bits)
	return b != nil && off >= 0 && off <= b.size
}
