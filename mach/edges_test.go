package mach_test

import (
	"math"
	"testing"

	"alembic/api"
	"alembic/mach"
)

// none stands in the tables for: no meaning.
var none = api.Value{}

func i32(n int32) api.Value   { return mach.IntOf(n) }
func i64(n int64) api.Value   { return mach.LongOf(n) }
func f64(n float64) api.Value { return mach.DoubleOf(math.Float64bits(n)) }

func check2(t *testing.T, op int, x, y, want api.Value) {
	t.Helper()
	if got, ok := mach.Eval2(op, x, y); got != want || ok != (want != none) {
		t.Errorf("%d of %v, %v: %v, %v, not %v", op, x, y, got, ok, want)
	}
}

func check1(t *testing.T, op int, x, want api.Value) {
	t.Helper()
	if got, ok := mach.Eval1(op, x); got != want || ok != (want != none) {
		t.Errorf("%d of %v: %v, %v, not %v", op, x, got, ok, want)
	}
}

type row2 struct {
	op         int
	x, y, want api.Value
}

func TestIntEdges(t *testing.T) {
	const low = math.MinInt32
	for _, x := range []row2{
		{api.OpAdd, i32(math.MaxInt32), i32(1), i32(low)},
		{api.OpSub, i32(low), i32(1), i32(math.MaxInt32)},
		{api.OpMul, i32(65536), i32(65536), i32(0)},
		{api.OpMul, i32(-3), i32(5), i32(-15)},
		{api.OpDiv, i32(-7), i32(2), i32(-3)},
		{api.OpMod, i32(-7), i32(2), i32(-1)},
		{api.OpDiv, i32(7), i32(-2), i32(-3)},
		{api.OpMod, i32(7), i32(-2), i32(1)},
		{api.OpDiv, i32(low), i32(-1), none},
		{api.OpMod, i32(low), i32(-1), none},
		{api.OpDiv, i32(low), i32(1), i32(low)},
		{api.OpDiv, i32(low + 1), i32(-1), i32(math.MaxInt32)},
		{api.OpMod, i32(low + 1), i32(-1), i32(0)},
		{api.OpDiv, i32(0), i32(-1), i32(0)},
		{api.OpDiv, i32(5), i32(0), none},
		{api.OpMod, i32(5), i32(0), none},
		{api.OpDivU, i32(5), i32(0), none},
		{api.OpModU, i32(5), i32(0), none},
		{api.OpDivU, i32(low), i32(-1), i32(0)},
		{api.OpModU, i32(low), i32(-1), i32(low)},
		{api.OpDivU, i32(-1), i32(2), i32(math.MaxInt32)},
		{api.OpAnd, i32(12), i32(10), i32(8)},
		{api.OpOr, i32(12), i32(10), i32(14)},
		{api.OpXor, i32(12), i32(10), i32(6)},
		{api.OpShl, i32(1), i32(31), i32(low)},
		{api.OpShl, i32(1), i32(32), none},
		{api.OpShl, i32(1), i32(-1), none},
		{api.OpShr, i32(-8), i32(1), i32(-4)},
		{api.OpShr, i32(-8), i32(0), i32(-8)},
		{api.OpShr, i32(-8), i32(31), i32(-1)},
		{api.OpShr, i32(-8), i32(32), none},
		{api.OpShrU, i32(-8), i32(1), i32(2147483644)},
		{api.OpShrU, i32(-8), i32(64), none},
		{api.OpShl, i32(1), api.Value{Kind: api.Int, Bits: 1<<32 + 3}, i32(8)},
		{api.OpLt, i32(-1), i32(1), i32(1)},
		{api.OpLtU, i32(-1), i32(1), i32(0)},
		{api.OpGe, i32(low), i32(low), i32(1)},
		{api.OpGeU, i32(low), i32(math.MaxInt32), i32(1)},
		{api.OpEq, api.Value{Kind: api.Int, Bits: 1<<32 + 3, Block: 9}, i32(3), i32(1)},
		{api.OpAdd, i32(1), i64(1), none},
		{api.OpAdd, i64(1), i32(1), none},
		{api.OpAdd, i64(1), i64(1), none},
		{api.OpAdd, i32(1), none, none},
		{api.OpNeg, i32(1), i32(1), none},
		{api.OpNeg, i32(1), none, none},
		{api.OpS8, i32(1), none, none},
	} {
		check2(t, x.op, x.x, x.y, x.want)
	}
}

func TestLongEdges(t *testing.T) {
	const low, l = math.MinInt64, api.OfLong
	for _, x := range []row2{
		{api.OpAdd + l, i64(math.MaxInt64), i64(1), i64(low)},
		{api.OpSub + l, i64(low), i64(1), i64(math.MaxInt64)},
		{api.OpMul + l, i64(1 << 32), i64(1 << 32), i64(0)},
		{api.OpDiv + l, i64(-7), i64(2), i64(-3)},
		{api.OpMod + l, i64(-7), i64(2), i64(-1)},
		{api.OpDiv + l, i64(low), i64(-1), none},
		{api.OpMod + l, i64(low), i64(-1), none},
		{api.OpDiv + l, i64(math.MinInt32), i64(-1), i64(1 << 31)},
		{api.OpDiv + l, i64(5), i64(0), none},
		{api.OpMod + l, i64(5), i64(0), none},
		{api.OpDivU + l, i64(5), i64(0), none},
		{api.OpModU + l, i64(5), i64(0), none},
		{api.OpDivU + l, i64(low), i64(-1), i64(0)},
		{api.OpModU + l, i64(low), i64(-1), i64(low)},
		{api.OpShl + l, i64(1), i32(63), i64(low)},
		{api.OpShl + l, i64(1), i32(64), none},
		{api.OpShl + l, i64(1), i32(-1), none},
		{api.OpShr + l, i64(-8), i32(63), i64(-1)},
		{api.OpShrU + l, i64(-8), i32(1), i64(math.MaxInt64 - 3)},
		{api.OpShl + l, i64(1), i64(1), none},
		{api.OpShl + l, i64(1), api.Value{Kind: api.Int, Bits: 1<<32 + 3, Block: 1}, i64(8)},
		{api.OpLt + l, i64(-1), i64(1), i32(1)},
		{api.OpLtU + l, i64(-1), i64(1), i32(0)},
		{api.OpEq + l, i64(1 << 32), i64(0), i32(0)},
		{api.OpEq + l, api.Value{Kind: api.Long, Bits: 3, Block: 9}, i64(3), i32(1)},
		{api.OpAdd + l, i64(1), i32(1), none},
		{api.OpAdd + l, i32(1), i32(1), none},
		{api.OpNeg + l, i64(1), none, none},
	} {
		check2(t, x.op, x.x, x.y, x.want)
	}
	check1(t, api.OpNeg, i32(math.MinInt32), i32(math.MinInt32))
	check1(t, api.OpNeg+l, i64(low), i64(low))
	check1(t, api.OpNeg+l, i64(1), i64(-1))
	check1(t, api.OpNot, i32(0), i32(-1))
	check1(t, api.OpNot+l, i64(5), i64(-6))
	check1(t, api.OpNeg, i64(5), none)
	check1(t, api.OpNeg+l, i32(5), none)
	check1(t, api.OpAdd, i32(5), none)
	check1(t, 0, none, none)
}

func TestNumbersThatNameNoOperation(t *testing.T) {
	values := []api.Value{none, i32(1), i64(1), f64(1), mach.PtrOf(1, 0), {Kind: 9}}
	for _, op := range allOps() {
		if x, _, _ := mach.Shape(op); x != 0 {
			continue
		}
		for _, x := range values {
			check1(t, op, x, none)
			for _, y := range values {
				check2(t, op, x, y, none)
			}
		}
	}
}

func TestPointers(t *testing.T) {
	const l = api.OfLong
	p, q, other := mach.PtrOf(3, 16), mach.PtrOf(3, 4), mach.PtrOf(4, 4)
	nowhere := api.Value{Kind: api.Ptr, Bits: 4}
	for _, x := range []row2{
		{api.OpSub + l, p, q, i64(12)},
		{api.OpSub + l, q, p, i64(-12)},
		{api.OpSub + l, mach.PtrOf(3, math.MinInt64), mach.PtrOf(3, 1), i64(math.MaxInt64)},
		{api.OpSub + l, p, other, none},
		{api.OpAdd + l, p, i64(4), mach.PtrOf(3, 20)},
		{api.OpAdd + l, i64(4), p, mach.PtrOf(3, 20)},
		{api.OpAdd + l, i64(-17), p, mach.PtrOf(3, -1)},
		{api.OpAdd + l, mach.PtrOf(3, math.MaxInt64), i64(1), mach.PtrOf(3, math.MinInt64)},
		{api.OpAdd + l, mach.PtrOf(-3, 0), i64(1), mach.PtrOf(-3, 1)},
		{api.OpAdd + l, p, api.Value{Kind: api.Long, Bits: 4, Block: 7}, mach.PtrOf(3, 20)},
		{api.OpSub + l, p, i64(20), mach.PtrOf(3, -4)},
		{api.OpSub + l, i64(20), p, none},
		{api.OpAdd + l, p, q, none},
		{api.OpAdd + l, p, i32(4), none},
		{api.OpAdd + l, i32(4), p, none},
		{api.OpAdd + l, p, none, none},
		{api.OpAdd, p, i64(4), none},
		{api.OpAdd, p, i32(4), none},
		{api.OpSub, p, q, none},
		{api.OpMul + l, p, i64(1), none},
		{api.OpAnd + l, p, i64(-1), none},
		{api.OpAnd + l, p, p, none},
		{api.OpDiv + l, p, p, none},
		{api.OpShl + l, p, i32(0), none},
		{api.OpEq + l, p, p, i32(1)},
		{api.OpEq + l, p, q, i32(0)},
		{api.OpNe + l, p, q, i32(1)},
		{api.OpLt + l, p, q, i32(0)},
		{api.OpLe + l, p, p, i32(1)},
		{api.OpGt + l, p, q, i32(1)},
		{api.OpGe + l, q, p, i32(0)},
		{api.OpLt + l, mach.PtrOf(3, -1), q, i32(1)},
		{api.OpLtU + l, mach.PtrOf(3, -1), q, i32(0)},
		{api.OpLeU + l, q, p, i32(1)},
		{api.OpGtU + l, mach.PtrOf(3, -1), q, i32(1)},
		{api.OpGeU + l, q, q, i32(1)},
		{api.OpEq + l, p, other, none},
		{api.OpNe + l, q, other, none},
		{api.OpLt + l, q, other, none},
		{api.OpGeU + l, q, other, none},
		{api.OpEq, p, p, none},
		{api.OpEq + l, mach.PtrOf(3, 0), i64(0), i32(0)},
		{api.OpEq + l, i64(0), mach.PtrOf(3, 0), i32(0)},
		{api.OpNe + l, mach.PtrOf(3, 0), i64(0), i32(1)},
		{api.OpNe + l, i64(0), mach.PtrOf(3, 0), i32(1)},
		{api.OpEq + l, p, api.Value{Kind: api.Long, Block: 7}, i32(0)},
		{api.OpEq + l, p, i64(1), none},
		{api.OpNe + l, i64(16), p, none},
		{api.OpEq + l, p, i32(0), none},
		{api.OpLt + l, p, i64(0), none},
		{api.OpGeU + l, i64(0), p, none},
		{api.OpEqD, p, p, none},
		{api.OpAddD, p, f64(0), none},
		{api.OpEq + l, nowhere, nowhere, none},
		{api.OpSub + l, nowhere, nowhere, none},
		{api.OpAdd + l, nowhere, i64(4), none},
		{api.OpAdd + l, i64(4), nowhere, none},
		{api.OpSub + l, nowhere, i64(4), none},
		{api.OpEq + l, nowhere, i64(0), none},
		{api.OpNe + l, i64(0), nowhere, none},
		{api.OpEq + l, p, nowhere, none},
		{api.OpEq + l, nowhere, p, none},
	} {
		check2(t, x.op, x.x, x.y, x.want)
	}
	for _, op := range allOps() {
		if op != api.OpTruth && op != api.OpFalse {
			check1(t, op, p, none)
			check1(t, op, nowhere, none)
		}
	}
}

func TestDoubleEdges(t *testing.T) {
	inf, negZero := math.Inf(1), math.Copysign(0, -1)
	nan := mach.DoubleOf(0x7ff8000000000000)
	odd := mach.DoubleOf(0xfff0000000000123) // another one that isn't a number
	for _, x := range []row2{
		{api.OpAddD, f64(1), f64(2), f64(3)},
		{api.OpAddD, mach.DoubleOf(0x3fb999999999999a), mach.DoubleOf(0x3fc999999999999a), mach.DoubleOf(0x3fd3333333333334)},
		{api.OpAddD, f64(1 << 53), f64(1), f64(1 << 53)},
		{api.OpAddD, f64(1<<53 + 2), f64(1), f64(1<<53 + 4)},
		{api.OpAddD, f64(negZero), f64(negZero), f64(negZero)},
		{api.OpAddD, f64(negZero), f64(0), f64(0)},
		{api.OpSubD, f64(1), f64(1), f64(0)},
		{api.OpSubD, f64(negZero), f64(0), f64(negZero)},
		{api.OpSubD, f64(inf), f64(inf), nan},
		{api.OpAddD, f64(inf), f64(-inf), nan},
		{api.OpAddD, f64(math.MaxFloat64), f64(math.MaxFloat64), f64(inf)},
		{api.OpMulD, f64(inf), f64(0), nan},
		{api.OpMulD, f64(-1), f64(0), f64(negZero)},
		{api.OpMulD, f64(math.SmallestNonzeroFloat64), f64(0.5), f64(0)},
		{api.OpMulD, f64(3 * math.SmallestNonzeroFloat64), f64(0.5), f64(2 * math.SmallestNonzeroFloat64)},
		{api.OpDivD, f64(0), f64(0), nan},
		{api.OpDivD, f64(inf), f64(-inf), nan},
		{api.OpDivD, f64(1), f64(0), f64(inf)},
		{api.OpDivD, f64(1), f64(negZero), f64(-inf)},
		{api.OpDivD, f64(1), f64(3), mach.DoubleOf(0x3fd5555555555555)},
		{api.OpDivD, f64(1), f64(-inf), f64(negZero)},
		{api.OpAddD, odd, f64(1), nan},
		{api.OpSubD, f64(1), odd, nan},
		{api.OpMulD, odd, odd, nan},
		{api.OpDivD, odd, f64(0), nan},
		{api.OpEqD, f64(0), f64(negZero), i32(1)},
		{api.OpLtD, f64(negZero), f64(0), i32(0)},
		{api.OpLeD, f64(0), f64(negZero), i32(1)},
		{api.OpLtD, f64(-inf), f64(inf), i32(1)},
		{api.OpGtD, f64(2), f64(1), i32(1)},
		{api.OpGeD, f64(1), f64(2), i32(0)},
		{api.OpNeD, f64(1), f64(2), i32(1)},
		{api.OpNeD, f64(2), f64(2), i32(0)},
		{api.OpAddD, f64(1), i64(1), none},
		{api.OpAddD, i32(1), f64(1), none},
		{api.OpAddD, f64(1), none, none},
		{api.OpNegD, f64(1), none, none},
		{api.OpNegD, f64(1), f64(1), none},
		{api.OpEqD, api.Value{Kind: api.Double, Block: 5}, f64(0), i32(1)},
	} {
		check2(t, x.op, x.x, x.y, x.want)
	}
	for _, x := range []api.Value{nan, odd} {
		for op := api.OpEqD; op <= api.OpGeD; op++ {
			want := i32(0)
			if op == api.OpNeD {
				want = i32(1)
			}
			check2(t, op, x, f64(1), want)
			check2(t, op, f64(1), x, want)
			check2(t, op, x, x, want)
		}
	}
	check1(t, api.OpNegD, f64(0), f64(negZero))
	check1(t, api.OpNegD, f64(-2.5), f64(2.5))
	check1(t, api.OpNegD, nan, mach.DoubleOf(0xfff8000000000000))
	check1(t, api.OpNegD, odd, mach.DoubleOf(0x7ff0000000000123))
	check1(t, api.OpNegD, i64(1), none)
}

func TestConversions(t *testing.T) {
	negZero := math.Copysign(0, -1)
	for _, x := range []struct {
		op      int
		x, want api.Value
	}{
		{api.OpS8, i32(0x1ff), i32(-1)},
		{api.OpS8, i32(0x17f), i32(127)},
		{api.OpS8, i32(-128), i32(-128)},
		{api.OpU8, i32(-1), i32(255)},
		{api.OpU8, i32(256), i32(0)},
		{api.OpS16, i32(0x18000), i32(-32768)},
		{api.OpS16, i32(0x17fff), i32(32767)},
		{api.OpU16, i32(-1), i32(65535)},
		{api.OpLongS, i32(-1), i64(-1)},
		{api.OpLongS, i32(math.MaxInt32), i64(math.MaxInt32)},
		{api.OpLongU, i32(-1), i64(1<<32 - 1)},
		{api.OpLongU, api.Value{Kind: api.Int, Bits: math.MaxUint64, Block: 2}, i64(1<<32 - 1)},
		{api.OpInt, i64(1<<32 + 5), i32(5)},
		{api.OpInt, i64(-1), i32(-1)},
		{api.OpDblS, i32(-1), f64(-1)},
		{api.OpDblU, i32(-1), f64(1<<32 - 1)},
		{api.OpDblS, api.Value{Kind: api.Int, Bits: 1 << 32}, f64(0)},
		{api.OpDblL, i64(-1), f64(-1)},
		{api.OpDblL, i64(1<<53 + 1), f64(1 << 53)},
		{api.OpDblL, i64(1<<53 + 3), f64(1<<53 + 4)},
		{api.OpDblL, i64(math.MaxInt64), f64(1 << 63)},
		{api.OpDblL, i64(math.MinInt64), f64(-1 << 63)},
		{api.OpDblUL, i64(-1), f64(1 << 64)},
		{api.OpDblUL, i64(math.MinInt64), f64(1 << 63)},
		{api.OpDblUL, i64(math.MinInt64 + 1024), f64(1 << 63)},
		{api.OpDblUL, i64(math.MinInt64 + 1025), f64(1<<63 + 2048)},
		{api.OpDblUL, i64(math.MinInt64 + 3072), f64(1<<63 + 4096)},
		{api.OpIntD, f64(-2.9), i32(-2)},
		{api.OpIntD, f64(2.9), i32(2)},
		{api.OpIntD, f64(negZero), i32(0)},
		{api.OpIntD, f64(2147483648), none},
		{api.OpIntD, f64(2147483647.5), i32(math.MaxInt32)},
		{api.OpIntD, f64(-2147483648.9), i32(math.MinInt32)},
		{api.OpIntD, f64(-2147483649), none},
		{api.OpUintD, f64(-0.9), i32(0)},
		{api.OpUintD, f64(-1), none},
		{api.OpUintD, f64(4294967295.5), i32(-1)},
		{api.OpUintD, f64(4294967296), none},
		{api.OpLongD, f64(-0x1p63), i64(math.MinInt64)},
		{api.OpLongD, mach.DoubleOf(0xc3e0000000000001), none},
		{api.OpLongD, f64(0x1p63), none},
		{api.OpLongD, mach.DoubleOf(0x43dfffffffffffff), i64(math.MaxInt64 - 1023)},
		{api.OpLongD, f64(-1.5), i64(-1)},
		{api.OpUlongD, f64(0x1p63), i64(math.MinInt64)},
		{api.OpUlongD, mach.DoubleOf(0x43efffffffffffff), i64(-2048)},
		{api.OpUlongD, f64(0x1p64), none},
		{api.OpUlongD, f64(-0.5), i64(0)},
		{api.OpUlongD, f64(-1), none},
		{api.OpLongS, i64(1), none},
		{api.OpInt, i32(1), none},
		{api.OpDblS, i64(1), none},
		{api.OpDblL, i32(1), none},
		{api.OpIntD, i32(1), none},
		{api.OpS8, none, none},
	} {
		check1(t, x.op, x.x, x.want)
	}
	for _, bits := range []uint64{0x7ff8000000000000, 0xfff0000000000001, 0x7ff0000000000000, 0xfff0000000000000} {
		for op := api.OpIntD; op <= api.OpUlongD; op++ {
			check1(t, op, mach.DoubleOf(bits), none)
		}
	}
}
