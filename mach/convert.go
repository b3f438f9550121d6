package mach

import (
	"alembic/api"
)

// extend is one of OpS8 to OpInt.
func extend(op int, x uint64) uint64 {
	switch op {
	case api.OpS8:
		return uint64(uint32(int8(x)))
	case api.OpU8:
		return uint64(uint8(x))
	case api.OpS16:
		return uint64(uint32(int16(x)))
	case api.OpU16:
		return uint64(uint16(x))
	case api.OpLongS:
		return uint64(int32(x))
	}
	return uint64(uint32(x)) // OpLongU and OpInt: the low bits alone
}

// double is the Double nearest to a whole number.
func double(op int, x uint64) float64 {
	switch op {
	case api.OpDblS:
		return float64(int32(x))
	case api.OpDblU:
		return float64(uint32(x))
	case api.OpDblL:
		return float64(int64(x))
	}
	return float64(x)
}

// cut is the whole number that a Double without a fraction is, where it is within the bounds of what it becomes.
func cut(op int, d float64) (uint64, bool) {
	switch op {
	case api.OpIntD:
		r, ok := within[int32](d, -1<<31, 1<<31)
		return uint64(uint32(r)), ok
	case api.OpUintD:
		r, ok := within[uint32](d, 0, 1<<32)
		return uint64(r), ok
	case api.OpLongD:
		r, ok := within[int64](d, -1<<63, 1<<63)
		return uint64(r), ok
	}
	return within[uint64](d, 0, 1<<64)
}

// within is a Double as a whole number, if it is from low on and below end; what isn't a number never is.
func within[N signed | unsigned](d, low, end float64) (N, bool) {
	if d >= low && d < end {
		return N(d), true
	}
	return 0, false
}
