package fold

import (
	"math/bits"

	"alembic/api"
	"alembic/mach"
)

// changed is what becomes of an instruction.
func (p place) changed(i api.Instr) api.Instr {
	if holds, ok := p.test(i); ok {
		return api.Instr{Kind: api.INop, Next: taken(i, holds)}
	}
	if i.Kind != api.IOp || len(i.Args) == 0 {
		return i
	}
	made := api.Instr{Kind: api.IOp, Dst: i.Dst, Next: i.Next}
	x := p.result(i)
	switch {
	case x.isNumber():
		made.Op, made.V = api.OpNum, x.v
	case i.Op == api.OpMove:
		return i
	case x.isAddress():
		made.Op, made.Sym, made.Off = api.OpGlobal, x.sym, x.off
	default:
		return p.shorter(i)
	}
	return made
}

// shorter is an operation in which a number stands in the place of an operand that is known.
func (p place) shorter(i api.Instr) api.Instr {
	op, x, y := p.operands(i)
	if isProduct(op) {
		shift := op - api.OpMul + api.OpShl
		if n, ok := power(y.v); ok {
			return withNumber(i, shift, i.Args[0], n)
		}
		if n, ok := power(x.v); ok && len(i.Args) > 1 {
			return withNumber(i, shift, i.Args[1], n)
		}
	}
	if i.Op < api.WithN && isShort(op, y.v) {
		return withNumber(i, op, i.Args[0], signed(y.v))
	}
	return i
}

// withNumber is an operation of a register and a number, in the place of another one.
func withNumber(i api.Instr, op, arg int, n int64) api.Instr {
	return api.Instr{Kind: api.IOp, Op: op + api.WithN, Args: []int{arg}, N: n, Dst: i.Dst, Next: i.Next}
}

func isProduct(op int) bool { return op == api.OpMul || op == api.OpMul+api.OfLong }

// power is which power of two a whole number is.
func power(v api.Value) (int64, bool) {
	n := v.Bits
	switch v.Kind {
	case api.Int:
		n = uint64(uint32(n))
	case api.Long:
	default:
		return 0, false
	}
	return int64(bits.TrailingZeros64(n)), bits.OnesCount64(n) == 1
}

// isShort tells whether a value is a whole number that an operation may have as its second operand. An operation that has no meaning with it, whatever the first one is, stays as it is.
func isShort(op int, v api.Value) bool {
	x, _, _ := mach.Shape(op)
	_, ok := mach.Eval2(op, one(x), v)
	return ok && v.Kind != api.Double && signed(v) >= -1<<11 && signed(v) < 1<<11
}

// one is the 1 of a kind of whole numbers.
func one(kind int) api.Value {
	if kind == api.Int {
		return mach.IntOf(1)
	}
	return mach.LongOf(1)
}

// signed is a whole number by its sign.
func signed(v api.Value) int64 {
	if v.Kind == api.Int {
		return int64(int32(v.Bits))
	}
	return int64(v.Bits)
}
