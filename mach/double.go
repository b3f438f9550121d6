package mach

import (
	"math"

	"alembic/api"
)

const (
	signBit = 1 << 63
	// notNumber is what a result that isn't a number is, whichever such thing the hardware would have answered.
	notNumber = 0x7ff8000000000000
)

// doubles is one of OpAddD to OpGeD.
func doubles(op int, x, y uint64) uint64 {
	a, b := math.Float64frombits(x), math.Float64frombits(y)
	switch op {
	case api.OpAddD:
		return doubleBits(a + b)
	case api.OpSubD:
		return doubleBits(a - b)
	case api.OpMulD:
		return doubleBits(a * b)
	case api.OpDivD:
		return doubleBits(a / b)
	}
	return flag[uint64](compare(op-api.OpEqD+api.OpEq, a, b))
}

func doubleBits(d float64) uint64 {
	if math.IsNaN(d) {
		return notNumber
	}
	return math.Float64bits(d)
}
