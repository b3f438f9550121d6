package fold

import (
	"alembic/api"
	"alembic/mach"
	"alembic/world"
)

// place is what is known ahead of an instruction.
type place struct {
	t   *table
	row int32
}

// arg is what is known of an instruction's n-th Arg.
func (p place) arg(i api.Instr, n int) fact {
	if n >= len(i.Args) {
		return fact{}
	}
	return p.t.fact(p.row, i.Args[n])
}

// test tells whether an ICond's Arg is known, and true.
func (p place) test(i api.Instr) (holds, ok bool) {
	if i.Kind != api.ICond {
		return false, false
	}
	return mach.Truth(p.arg(i, 0).v)
}

// behind is the row of what is known behind an instruction.
func (p place) behind(i api.Instr) int32 {
	switch i.Kind {
	case api.IOp:
		return p.t.with(p.row, i.Dst, p.result(i))
	case api.ILoad, api.ICall:
		return p.t.with(p.row, i.Dst, fact{})
	}
	return p.row
}

// result is what is known of an operation's result.
func (p place) result(i api.Instr) fact {
	switch i.Op {
	case api.OpMove:
		return p.arg(i, 0)
	case api.OpNum:
		return number(i.V)
	case api.OpGlobal:
		return fact{sym: i.Sym, off: i.Off}
	}
	op, x, y := p.operands(i)
	if op == api.OpAdd+api.OfLong {
		switch {
		case x.isAddress() && y.v.Kind == api.Long:
			return x.behind(int64(y.v.Bits))
		case y.isAddress() && x.v.Kind == api.Long:
			return y.behind(int64(x.v.Bits))
		}
	}
	return answer(op, x.v, y.v)
}

// operands are an operation and what is known of its operands, a number that it has among them.
func (p place) operands(i api.Instr) (op int, x, y fact) {
	if i.Op > api.WithN {
		v, _ := world.Number(i.Op-api.WithN, i.N)
		return i.Op - api.WithN, p.arg(i, 0), number(v)
	}
	return i.Op, p.arg(i, 0), p.arg(i, 1)
}

// answer is the number that an operation answers, nothing where it has no meaning.
func answer(op int, x, y api.Value) fact {
	if _, kind, _ := mach.Shape(op); kind == 0 {
		v, _ := mach.Eval1(op, x)
		return number(v)
	}
	v, _ := mach.Eval2(op, x, y)
	return number(v)
}
