package graphs

import (
	"slices"

	"alembic/api"
	"alembic/mach"
)

// grower makes programs of right RTL.
type grower struct {
	n uint64
	f api.Graph
	// the registers by their kinds, and those that hold addresses of ints
	registers map[int][]int
	addresses []int
}

// below is a number below n, by a rule that scatters.
func (g *grower) below(n int) int {
	g.n = g.n*6364136223846793005 + 1442695040888963407
	return int(g.n >> 33 % uint64(n))
}

func oneOf[T any](g *grower, list ...T) T { return list[g.below(len(list))] }

// The functions of a grown program; their bytes.
var grownFuncs = []struct {
	name, sig string
	frame     int
}{{"main", "i", 16}, {"f", "ii", 0}, {"g", "ildl", 8}, {"h", "iv", 0}, {"p", "lii", 24}, {"many", "iiiiiiiidl", 0}}

func grownProgram(seed int) (*grower, api.Graphs) {
	g := &grower{n: uint64(seed)*0x9e3779b97f4a7c15 + 1}
	p := program()
	for _, f := range grownFuncs {
		p.Funcs = append(p.Funcs, g.function(f.name, f.sig, f.frame))
	}
	return g, p
}

func (g *grower) function(name, sig string, bytes int) api.Graph {
	g.f = api.Graph{Name: name, Sig: sigOf(sig), Frame: bytes}
	g.registers, g.addresses = map[int][]int{}, nil
	for i, k := range g.f.Sig.Params {
		r := g.register(k)
		g.f.Params = append(g.f.Params, r)
		if name == "p" && i == 0 {
			g.addresses = append(g.addresses, r)
		} else {
			g.registers[k] = append(g.registers[k], r)
		}
	}
	g.begin()
	n := 4 + g.below(18)
	from := len(g.f.Code)
	for range n {
		g.instr(from)
	}
	g.end(g.last())
	g.shuffle()
	return g.f
}

// register is a new register.
func (g *grower) register(kind int) int {
	g.f.Kinds = append(g.f.Kinds, kind)
	return len(g.f.Kinds) - 1
}

// add adds an instruction that goes on to the one behind it.
func (g *grower) add(i api.Instr) {
	i.Next = len(g.f.Code) + 1
	g.f.Code = append(g.f.Code, i)
}

// begin sets most registers.
func (g *grower) begin() {
	for _, k := range []int{api.Int, api.Int, api.Int, api.Long, api.Long, api.Double, api.Double} {
		r := g.register(k)
		g.registers[k] = append(g.registers[k], r)
		if g.below(40) > 0 {
			g.add(num(r, g.number(k)))
		}
	}
	for range 2 {
		r := g.register(api.Long)
		g.addresses = append(g.addresses, r)
		if g.below(40) > 0 {
			g.add(g.address(r))
		}
	}
	for off := 0; off < g.f.Frame; off += 4 {
		if g.below(9) > 0 {
			g.add(frame(g.addresses[0], off))
			g.add(store(api.C32, g.addresses[0], 0, g.of(api.Int)))
		}
	}
}

// address lets a register have the address of an int; now and then of none.
func (g *grower) address(r int) api.Instr {
	if g.f.Frame > 0 && g.below(3) > 0 {
		return frame(r, 4*g.below(g.f.Frame/4+g.below(12)/11))
	}
	off := 4 * g.below(4)
	if g.below(20) == 0 {
		off = oneOf(g, -4, 16, 2)
	}
	return oneOf(g, global(r, "gi", 0), global(r, "ga", 12), global(r, "ga", off), global(r, "gl", 0))
}

// number is a number of a kind.
func (g *grower) number(kind int) api.Value {
	n := int64(g.below(9) - 3)
	if g.below(12) == 0 {
		n = oneOf(g, int64(1)<<31-1, -1<<31, 1<<40+3, -1<<63, 2048, -2049, 64)
	}
	switch kind {
	case api.Int:
		return i32(int32(n))
	case api.Long:
		return i64(n)
	}
	return f64(oneOf(g, uint64(0), 1<<63, 0x3ff0000000000000, 0xc004000000000000, 0x7ff8000000000000))
}

// of is a register of a kind.
func (g *grower) of(kind int) int { return oneOf(g, g.registers[kind]...) }

// at is a register that has an address, mostly.
func (g *grower) at() int { return oneOf(g, g.addresses...) }

// instr adds an instruction; branches go to one from a number on, or a few further on.
func (g *grower) instr(from int) {
	n := len(g.f.Code)
	switch g.below(16) {
	case 0:
		i := nop()
		i.Next = n + 1 + g.below(2)
		g.f.Code = append(g.f.Code, i)
	case 1, 2:
		g.f.Code = append(g.f.Code, cond(g.of(api.Int), n+1, oneOf(g, n+1+g.below(5), n+1+g.below(5), from+g.below(n-from+2), n+1)))
	case 3:
		g.add(g.call())
	case 4:
		if g.below(4) == 0 {
			g.add(g.byAddress(g.call()))
			return
		}
		g.add(call(-1, "show", "iv", g.of(api.Int)))
	case 5:
		if g.below(3) == 0 {
			g.end(g.last())
			return
		}
		g.add(g.address(g.at()))
	case 6, 7:
		g.add(g.access())
	case 8:
		g.add(num(g.place(oneOf(g, api.Int, api.Long, api.Double))))
	case 9:
		k := oneOf(g, api.Int, api.Int, api.Long, api.Double)
		g.add(op(g.of(k), api.OpMove, g.of(k)))
	case 10:
		g.add(op(g.at(), api.OpMove, g.at()))
	case 11:
		g.add(oneOf(g, op(g.of(api.Int), oneOf(g, api.OpTruth, api.OpFalse), oneOf(g, g.of(api.Int), g.of(api.Long), g.at())), opN(g.of(api.Int), oneOf(g, api.OpEq, api.OpNe)+api.OfLong, g.at(), 0)))
	default:
		g.add(g.operation())
	}
}

// place is a register of a kind, and a number for it.
func (g *grower) place(kind int) (int, api.Value) { return g.of(kind), g.number(kind) }

// operation is one that mostly has a meaning.
func (g *grower) operation() api.Instr {
	switch g.below(6) {
	case 0:
		o := oneOf(g, api.OpNeg, api.OpNot, api.OpNegD, api.OpS8, api.OpU16, api.OpLongS, api.OpLongU, api.OpInt, api.OpDblS, api.OpDblUL, api.OpIntD, api.OpNeg+api.OfLong)
		x, _, r := mach.Shape(o)
		return op(g.of(r), o, g.of(x))
	case 1, 2:
		o := oneOf(g, api.OpAdd, api.OpSub, api.OpMul, api.OpAnd, api.OpOr, api.OpXor, api.OpEq, api.OpLt, api.OpGtU, api.OpLe, api.OpShl, api.OpDiv) + oneOf(g, 0, 0, api.OfLong)
		x, y, r := mach.Shape(o)
		n := int64(g.number(y).Bits)
		if y == api.Int {
			n = int64(int32(n))
		}
		if plain := o % api.OfLong; plain == api.OpShl || plain == api.OpDiv {
			n = int64(1 + g.below(4))
		}
		return opN(g.of(r), o, g.of(x), n)
	case 3:
		o := oneOf(g, api.OpAddD, api.OpSubD, api.OpMulD, api.OpDivD, api.OpEqD, api.OpLtD)
		_, _, r := mach.Shape(o)
		return op(g.of(r), o, g.of(api.Double), g.of(api.Double))
	}
	o := oneOf(g, api.OpAdd, api.OpSub, api.OpMul, api.OpAnd, api.OpXor, api.OpEq, api.OpLtU, api.OpGe, api.OpAdd, api.OpAdd, api.OpDiv, api.OpShr) + oneOf(g, 0, 0, 0, api.OfLong)
	x, y, r := mach.Shape(o)
	return op(g.of(r), o, g.of(x), g.of(y))
}

// access is a load or a store.
func (g *grower) access() api.Instr {
	off := 0
	if g.below(30) == 0 {
		off = oneOf(g, 4, -4)
	}
	chunk := oneOf(g, api.C32, api.C32, api.C32, api.C8S, api.C16U)
	if g.below(2) == 0 {
		return load(g.of(api.Int), chunk, g.at(), off)
	}
	return store(chunk, g.at(), off, g.of(api.Int))
}

// call is a call of a function; its result goes to a register, or to none.
func (g *grower) call() api.Instr {
	s := oneOf(g, grownFuncs[1:]...)
	i := call(-1, s.name, s.sig)
	if g.below(3) == 0 {
		i = oneOf(g, call(-1, "int", "ii"), call(-1, "long", "ll"), call(-1, "double", "dd"), call(-1, "stop", "v"))
	}
	for n, k := range i.Sig.Params {
		r := g.of(k)
		if i.Sym == "p" && n == 0 {
			r = g.at()
		}
		i.Args = append(i.Args, r)
	}
	if k := i.Sig.Result; k != 0 && g.below(3) > 0 {
		i.Dst = g.of(k)
	}
	return i
}

// byAddress adds the address of what is called, which the call then asks for.
func (g *grower) byAddress(i api.Instr) api.Instr {
	sym := i.Sym
	if g.below(20) == 0 {
		sym = oneOf(g, "gi", "h", "many", "int")
	}
	at := g.register(api.Long)
	g.add(global(at, sym, 0))
	i.Sym, i.Args = "", append([]int{at}, i.Args...)
	return i
}

// last is an instruction behind which there is none: a return, or a call in its place.
func (g *grower) last() api.Instr {
	k := g.f.Sig.Result
	if g.below(4) == 0 {
		for range 20 {
			if i := g.call(); i.Sig.Result == k {
				if g.below(4) == 0 {
					i = g.byAddress(i)
				}
				return api.Instr{Kind: api.ITail, Sym: i.Sym, Sig: i.Sig, Args: i.Args}
			}
		}
	}
	if k == 0 || g.below(15) == 0 {
		return ret()
	}
	return ret(g.of(k))
}

// end adds an instruction behind which there is none.
func (g *grower) end(i api.Instr) { g.f.Code = append(g.f.Code, i) }

// shuffle puts the instructions into another order.
func (g *grower) shuffle() {
	to := make([]int, len(g.f.Code))
	for n := range to {
		to[n] = n
	}
	for n := range to {
		k := g.below(n + 1)
		to[n], to[k] = to[k], to[n]
	}
	code := make([]api.Instr, len(to))
	last := len(to) - 1
	for n, i := range g.f.Code {
		if i.Kind != api.ITail && i.Kind != api.IReturn {
			i.Next = to[min(i.Next, last)]
		}
		if i.Kind == api.ICond {
			i.Else = to[min(i.Else, last)]
		}
		code[to[n]] = i
	}
	g.f.Code, g.f.Entry = slices.Clone(code), to[g.f.Entry]
}
