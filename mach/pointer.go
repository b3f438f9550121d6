package mach

import (
	"alembic/api"
)

// pointers is an operation of two, at least one of them a Ptr.
func pointers(op int, x, y api.Value) (api.Value, bool) {
	if isNowhere(x) || isNowhere(y) {
		return api.Value{}, false
	}
	switch {
	case x.Kind == api.Ptr && y.Kind == api.Ptr:
		return twoPointers(op, x, y)
	case y.Kind == api.Long:
		return pointerAndLong(op, x, y.Bits)
	case x.Kind == api.Long && op != api.OpSub+api.OfLong:
		return pointerAndLong(op, y, x.Bits)
	}
	return api.Value{}, false
}

// isNowhere tells whether a value is a Ptr that isn't right: no operation takes it.
func isNowhere(x api.Value) bool {
	return x.Kind == api.Ptr && x.Block == 0
}

// twoPointers is an operation of two Ptrs: what it answers is told by their offsets.
func twoPointers(op int, x, y api.Value) (api.Value, bool) {
	switch {
	case x.Block != y.Block:
		return api.Value{}, false
	case op == api.OpSub+api.OfLong:
		return LongOf(int64(x.Bits - y.Bits)), true
	case op >= api.OpEq+api.OfLong && op <= api.OpGeU+api.OfLong:
		n, ok := whole[int64](op-api.OfLong, x.Bits, y.Bits)
		return answer(api.Int, n, ok)
	}
	return api.Value{}, false
}

// pointerAndLong is an operation of a Ptr and a Long, whichever of them stands ahead.
func pointerAndLong(op int, p api.Value, n uint64) (api.Value, bool) {
	switch {
	case op == api.OpAdd+api.OfLong:
		return PtrOf(p.Block, int64(p.Bits+n)), true
	case op == api.OpSub+api.OfLong:
		return PtrOf(p.Block, int64(p.Bits-n)), true
	case op == api.OpEq+api.OfLong && n == 0:
		return IntOf(0), true
	case op == api.OpNe+api.OfLong && n == 0:
		return IntOf(1), true
	}
	return api.Value{}, false
}
