// Package mach is layer 1: what the machine's operations answer. See shared/doc/01-mach.md.
package mach

import (
	"alembic/api"
)

// IntOf is an Int.
func IntOf(n int32) api.Value {
	return api.Value{Kind: api.Int, Bits: uint64(uint32(n))}
}

// LongOf is a Long.
func LongOf(n int64) api.Value {
	return api.Value{Kind: api.Long, Bits: uint64(n)}
}

// DoubleOf is a Double of these bits.
func DoubleOf(bits uint64) api.Value {
	return api.Value{Kind: api.Double, Bits: bits}
}

// PtrOf is a Ptr; of the block 0 it is the undefined value.
func PtrOf(block int, off int64) api.Value {
	if block == 0 {
		return api.Value{}
	}
	return api.Value{Kind: api.Ptr, Bits: uint64(off), Block: block}
}

// Right tells whether a value is right.
func Right(x api.Value) bool {
	switch x.Kind {
	case api.Undef:
		return x == api.Value{}
	case api.Int:
		return x.Bits < 1<<32 && x.Block == 0
	case api.Long, api.Double:
		return x.Block == 0
	case api.Ptr:
		return x.Block != 0
	}
	return false
}

// Same tells whether two values are the same.
func Same(x, y api.Value) bool { return x == y }

// Truth tells whether a value isn't zero, and whether that has a meaning.
func Truth(x api.Value) (bool, bool) {
	switch x.Kind {
	case api.Int:
		return uint32(x.Bits) != 0, true
	case api.Long:
		return x.Bits != 0, true
	case api.Double:
		return x.Bits&^signBit != 0, true
	case api.Ptr:
		return true, true
	}
	return false, false
}
