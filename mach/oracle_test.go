package mach_test

import (
	"math"
	"math/big"
	"testing"

	"alembic/api"
	"alembic/mach"
)

// allOps are the numbers of operations, those beside them, and numbers far off.
func allOps() []int {
	list := []int{math.MinInt, math.MinInt + 29, math.MinInt + 30, math.MaxInt - 30, math.MaxInt, 1 << 32, 1<<32 + 3}
	for op := -40; op < 330; op++ {
		list = append(list, op)
	}
	return list
}

// edgeNumbers are numbers at which something of some width turns.
func edgeNumbers() []uint64 {
	var list []uint64
	for _, bit := range []uint{0, 1, 2, 4, 5, 6, 7, 8, 15, 16, 31, 32, 33, 52, 53, 54, 62, 63} {
		n := uint64(1) << bit
		list = append(list, n-1, n, n+1, -n-1, -n, -n+1)
	}
	return append(list, 7, math.MaxUint64-6, 12345678987654321)
}

func edgeDoubles() []float64 {
	list := []float64{0, 0.1, 0.5, 1, 1.5, 2, 2.9, 3, 10, 1e-300, 1e300, math.MaxFloat64, math.SmallestNonzeroFloat64, 3 * math.SmallestNonzeroFloat64, 0x1p-1022, 0x1.fffffffffffffp-1023}
	for _, bit := range []int{7, 8, 15, 16, 31, 32, 52, 53, 63, 64} {
		n := math.Ldexp(1, bit)
		list = append(list, n, n-1, n-0.5, n+1, math.Nextafter(n, 0), math.Nextafter(n, 2*n))
	}
	for _, n := range list[:len(list):len(list)] {
		list = append(list, -n)
	}
	return list
}

var two32, two64 = big.NewInt(1 << 32), new(big.Int).Lsh(big.NewInt(1), 64)

// bigOf is a number of a width, by its sign or without.
func bigOf(bits uint64, wide, sign bool) *big.Int {
	n := new(big.Int).SetUint64(bits)
	span := two64
	if !wide {
		span = two32
		n.Mod(n, span)
	}
	if sign && n.Cmp(new(big.Int).Rsh(span, 1)) >= 0 {
		n.Sub(n, span)
	}
	return n
}

// wrapped is the value of a width that a number comes to.
func wrapped(n *big.Int, wide bool) api.Value {
	if wide {
		return api.Value{Kind: api.Long, Bits: new(big.Int).Mod(n, two64).Uint64()}
	}
	return api.Value{Kind: api.Int, Bits: new(big.Int).Mod(n, two32).Uint64()}
}

// wholeWant is what an operation of two whole numbers must answer, reckoned without any bound; none: no meaning.
func wholeWant(op int, a, b uint64, wide bool) api.Value {
	x, y := bigOf(a, wide, true), bigOf(b, wide, true)
	u, v := bigOf(a, wide, false), bigOf(b, wide, false)
	truth := func(holds bool) api.Value {
		if holds {
			return mach.IntOf(1)
		}
		return mach.IntOf(0)
	}
	switch op {
	case api.OpAdd:
		return wrapped(x.Add(x, y), wide)
	case api.OpSub:
		return wrapped(x.Sub(x, y), wide)
	case api.OpMul:
		return wrapped(x.Mul(x, y), wide)
	case api.OpDiv, api.OpMod:
		if y.Sign() == 0 {
			return none
		}
		q, r := new(big.Int).QuoRem(x, y, new(big.Int))
		if bigOf(wrapped(q, wide).Bits, wide, true).Cmp(q) != 0 {
			return none
		}
		if op == api.OpMod {
			return wrapped(r, wide)
		}
		return wrapped(q, wide)
	case api.OpDivU, api.OpModU:
		if v.Sign() == 0 {
			return none
		}
		q, r := new(big.Int).QuoRem(u, v, new(big.Int))
		if op == api.OpModU {
			return wrapped(r, wide)
		}
		return wrapped(q, wide)
	case api.OpAnd:
		return wrapped(x.And(x, y), wide)
	case api.OpOr:
		return wrapped(x.Or(x, y), wide)
	case api.OpXor:
		return wrapped(x.Xor(x, y), wide)
	case api.OpEq:
		return truth(x.Cmp(y) == 0)
	case api.OpNe:
		return truth(x.Cmp(y) != 0)
	case api.OpLt:
		return truth(x.Cmp(y) < 0)
	case api.OpLe:
		return truth(x.Cmp(y) <= 0)
	case api.OpGt:
		return truth(x.Cmp(y) > 0)
	case api.OpGe:
		return truth(x.Cmp(y) >= 0)
	case api.OpLtU:
		return truth(u.Cmp(v) < 0)
	case api.OpLeU:
		return truth(u.Cmp(v) <= 0)
	case api.OpGtU:
		return truth(u.Cmp(v) > 0)
	}
	return truth(u.Cmp(v) >= 0)
}

func shiftWant(op int, a, b uint64, wide bool) api.Value {
	by, bound := uint32(b), uint32(32)
	if wide {
		bound = 64
	}
	switch {
	case by >= bound:
		return none
	case op == api.OpShl:
		return wrapped(new(big.Int).Lsh(bigOf(a, wide, true), uint(by)), wide)
	}
	return wrapped(new(big.Int).Rsh(bigOf(a, wide, op == api.OpShr), uint(by)), wide)
}

func TestWholeNumbersAgainstUnboundedOnes(t *testing.T) {
	numbers := edgeNumbers()
	for _, a := range numbers {
		for _, b := range numbers {
			for op := api.OpAdd; op <= api.OpGeU; op++ {
				x32, y32 := api.Value{Kind: api.Int, Bits: a}, api.Value{Kind: api.Int, Bits: b, Block: 5}
				x64, y64 := api.Value{Kind: api.Long, Bits: a, Block: -2}, api.Value{Kind: api.Long, Bits: b}
				if op == api.OpShl || op == api.OpShr || op == api.OpShrU {
					check2(t, op, x32, y32, shiftWant(op, a, b, false))
					check2(t, op+api.OfLong, x64, y32, shiftWant(op, a, b, true))
					continue
				}
				check2(t, op, x32, y32, wholeWant(op, a, b, false))
				check2(t, op+api.OfLong, x64, y64, wholeWant(op, a, b, true))
			}
		}
		check1(t, api.OpNeg, api.Value{Kind: api.Int, Bits: a}, wrapped(new(big.Int).Neg(bigOf(a, false, true)), false))
		check1(t, api.OpNot, api.Value{Kind: api.Int, Bits: a}, wrapped(new(big.Int).Not(bigOf(a, false, true)), false))
		check1(t, api.OpNeg+api.OfLong, api.Value{Kind: api.Long, Bits: a}, wrapped(new(big.Int).Neg(bigOf(a, true, true)), true))
		check1(t, api.OpNot+api.OfLong, api.Value{Kind: api.Long, Bits: a}, wrapped(new(big.Int).Not(bigOf(a, true, true)), true))
	}
}

// nearest is the double next to what is no double, its sign told by negative (a zero has one, too).
func nearest(r *big.Rat, negative bool) api.Value {
	f, _ := new(big.Rat).Abs(r).Float64()
	if negative {
		f = -f
	}
	return f64(f)
}

func doubleWant(op int, a, b float64) api.Value {
	x, y := new(big.Rat).SetFloat64(a), new(big.Rat).SetFloat64(b)
	apart := math.Signbit(a) != math.Signbit(b)
	switch op {
	case api.OpAddD:
		r := new(big.Rat).Add(x, y)
		return nearest(r, r.Sign() < 0 || r.Sign() == 0 && math.Signbit(a) && math.Signbit(b))
	case api.OpSubD:
		r := new(big.Rat).Sub(x, y)
		return nearest(r, r.Sign() < 0 || r.Sign() == 0 && math.Signbit(a) && !math.Signbit(b))
	case api.OpMulD:
		return nearest(x.Mul(x, y), apart)
	}
	if y.Sign() != 0 {
		return nearest(x.Quo(x, y), apart)
	}
	if x.Sign() == 0 {
		return mach.DoubleOf(0x7ff8000000000000)
	}
	if apart {
		return f64(math.Inf(-1))
	}
	return f64(math.Inf(1))
}

func TestDoublesAgainstFractions(t *testing.T) {
	list := edgeDoubles()
	for _, a := range list {
		for _, b := range list {
			for op := api.OpAddD; op <= api.OpDivD; op++ {
				check2(t, op, f64(a), f64(b), doubleWant(op, a, b))
			}
			c := new(big.Rat).SetFloat64(a).Cmp(new(big.Rat).SetFloat64(b))
			for i, holds := range []bool{c == 0, c != 0, c < 0, c <= 0, c > 0, c >= 0} {
				want := i32(0)
				if holds {
					want = i32(1)
				}
				check2(t, api.OpEqD+i, f64(a), f64(b), want)
			}
		}
	}
}

func TestConversionsAgainstUnboundedNumbers(t *testing.T) {
	for _, n := range edgeNumbers() {
		x32, x64 := api.Value{Kind: api.Int, Bits: n, Block: 4}, api.Value{Kind: api.Long, Bits: n}
		for i, sign := range []bool{true, false} {
			small, great := bigOf(n, false, sign), bigOf(n, true, sign)
			check1(t, api.OpLongS+i, x32, wrapped(small, true))
			check1(t, api.OpDblS+i, x32, nearest(new(big.Rat).SetInt(small), small.Sign() < 0))
			check1(t, api.OpDblL+i, x64, nearest(new(big.Rat).SetInt(great), great.Sign() < 0))
		}
		check1(t, api.OpInt, x64, wrapped(bigOf(n, true, true), false))
		check1(t, api.OpS8, x32, mach.IntOf(int32(int8(n))))
		check1(t, api.OpU8, x32, mach.IntOf(int32(uint8(n))))
		check1(t, api.OpS16, x32, mach.IntOf(int32(int16(n))))
		check1(t, api.OpU16, x32, mach.IntOf(int32(uint16(n))))
	}
	for _, d := range edgeDoubles() {
		r := new(big.Rat).SetFloat64(d)
		n := new(big.Int).Quo(r.Num(), r.Denom())
		for _, x := range []struct {
			op         int
			wide, sign bool
		}{{api.OpIntD, false, true}, {api.OpUintD, false, false}, {api.OpLongD, true, true}, {api.OpUlongD, true, false}} {
			want := wrapped(n, x.wide)
			if bigOf(want.Bits, x.wide, x.sign).Cmp(n) != 0 {
				want = none
			}
			check1(t, x.op, f64(d), want)
		}
	}
}
