package core_test

import (
	"testing"

	"alembic/api"
	"alembic/core"
	"alembic/mach"
)

// grower makes units: of all forms of all languages in one, each operation with operands of its shape.
type grower struct {
	n      uint64
	loops  int // how many are around, of those in whose body this stands
	leaves int // loops and switches that are around
	labels int // of the function, that stand there
	inNew  bool
}

// below is a number below n, by a rule that scatters.
func (g *grower) below(n int) int {
	g.n = g.n*6364136223846793005 + 1442695040888963407
	return int(g.n >> 33 % uint64(n))
}

// The functions that a grown unit has, and how each is called.
var grownSigs = []struct{ name, sig string }{{"int", "ii"}, {"long", "ll"}, {"double", "dd"}, {"show", "iv"}, {"f", "ii"}, {"g", "lidl"}, {"h", "dv"}}

// Each function's locals, by number: an int, a long, a double, a char, four ints, an address of an int. Its temporaries: an int, a long, a double, an address of an int. In its frame, from 0 on: four ints, a long, a double, an address of an int.
func grownSlots() []api.Slot {
	return []api.Slot{{Size: 4, Align: 4, Chunk: api.C32}, {Size: 8, Align: 8, Chunk: api.C64}, {Size: 8, Align: 8, Chunk: api.CF64}, {Size: 1, Align: 1, Chunk: api.C8S}, {Size: 16, Align: 4}, {Size: 8, Align: 8, Chunk: api.C64}}
}

func (g *grower) unit() api.Unit {
	u := unitWith(g.function("main", "i"), g.function("f", "ii", 0), g.function("g", "lidl", -1, 2, -2), g.function("h", "dv", -3))
	u.Vars = []api.Var{
		{Name: "gi", Size: 4, Align: 4, Init: []api.Datum{{Chunk: api.C32, V: mach.IntOf(5)}}},
		{Name: "gl", Size: 8, Align: 8}, {Name: "gd", Size: 8, Align: 8},
		{Name: "ga", Size: 16, Align: 4, Init: []api.Datum{{At: 4, Chunk: api.C32, V: mach.IntOf(-3)}, {At: 8, Chunk: api.C16U, V: mach.IntOf(9)}}},
		{Name: "gp", Size: 8, Align: 8, Init: []api.Datum{{Chunk: api.C64, Sym: "ga", Off: 8}}},
		{Name: "fp", Size: 8, Align: 8, Init: []api.Datum{{Chunk: api.C64, Sym: "f"}}},
		{Name: "fixed", Size: 3, Align: 1, Fixed: true, Init: []api.Datum{{At: 1, Chunk: api.C8S, V: mach.IntOf(7)}}},
	}
	return u
}

func (g *grower) function(name, sig string, params ...int) api.Func {
	f := api.Func{Name: name, Sig: sigOf(sig), Params: params, Locals: grownSlots(), Temps: 4, Frame: 40}
	for n, s := range f.Locals[:4] {
		if n != 0 || name != "f" {
			f.Body = append(f.Body, do(assign(s.Chunk, local(n), g.number(s.Chunk))))
		}
	}
	f.Body = append(f.Body, put(api.C32, local(4), 4, g.number(api.C32)), put(api.C64, local(5), 0, local(0)))
	f.Body = append(f.Body, set(3, global("gi")), put(api.C32, frame(0), 8, g.number(api.C32)), put(api.C64, frame(16), 0, g.number(api.C64)), put(api.CF64, frame(24), 0, g.number(api.CF64)), put(api.C64, frame(32), 0, global("ga")))
	for n, chunk := range []int{api.C32, api.C64, api.CF64} {
		if g.below(9) > 0 && name != "g" && name != "h" {
			f.Body = append(f.Body, set(n, g.number(chunk)))
		}
	}
	g.labels = 0
	f.Body = append(f.Body, g.list(3)...)
	if g.below(9) > 0 {
		f.Body = append(f.Body, ret(g.ofKind(f.Sig.Result, 2)))
	}
	return f
}

// number is a number that a chunk may hold.
func (g *grower) number(chunk int) api.Expr {
	n := int64(g.below(11) - 3)
	switch mach.Kind(chunk) {
	case api.Long:
		return i64(n)
	case api.Double:
		return api.Num{V: mach.DoubleOf([]uint64{0, 0x3ff0000000000000, 0xc004000000000000, 0x7ff8000000000000}[g.below(4)])}.Expr()
	}
	return i32(int32(n))
}

func (g *grower) ofKind(kind, depth int) api.Expr {
	switch kind {
	case api.Int:
		return g.int(depth)
	case api.Long:
		return g.long(depth)
	case api.Double:
		return g.double(depth)
	}
	return api.Expr{}
}

// address is an address of what a chunk may load; now and then one beyond it.
func (g *grower) address(chunk, depth int) api.Expr {
	if depth > 0 && g.below(5) == 0 {
		return api.Comma{X: g.any(depth - 1), Y: g.address(chunk, depth-1)}.Expr()
	}
	if depth > 0 && g.below(5) == 0 {
		return api.Cond{X: g.any(depth - 1), Y: g.address(chunk, depth-1), Z: g.address(chunk, depth-1)}.Expr()
	}
	switch chunk {
	case api.C64:
		return []api.Expr{global("gl"), local(1), frame(16)}[g.below(3)]
	case api.CF64:
		return []api.Expr{global("gd"), local(2), frame(24)}[g.below(3)]
	case api.C8S, api.C8U:
		return []api.Expr{local(3), global("gi"), global("ga"), op2(api.OpAdd+api.OfLong, global("fixed"), i64(1))}[g.below(4)]
	}
	if depth > 0 && g.below(3) == 0 {
		far := op2(api.OpMul+api.OfLong, op1(api.OpLongS, op2(api.OpAnd, g.int(depth-1), i32(3))), i64(4))
		return op2(api.OpAdd+api.OfLong, []api.Expr{global("ga"), local(4), frame(0)}[g.below(3)], far)
	}
	return []api.Expr{global("gi"), global("ga"), local(0), local(4), frame(8), temp(3), load(api.C64, global("gp"), 0), load(api.C64, local(5), 0), load(api.C64, frame(32), 0)}[g.below(9)]
}

func (g *grower) any(depth int) api.Expr {
	return g.ofKind([]int{api.Int, api.Int, api.Long, api.Double}[g.below(4)], depth)
}

// called is a call of a function whose result is of a kind.
func (g *grower) called(kind, depth int) api.Expr {
	for {
		s := grownSigs[g.below(len(grownSigs))]
		if sig := sigOf(s.sig); sig.Result == kind {
			var args []api.Expr
			for _, k := range sig.Params {
				args = append(args, g.ofKind(k, depth))
			}
			f := global(s.name)
			if s.name == "f" && g.below(2) == 0 {
				f = api.Comma{X: g.any(depth), Y: load(api.C64, global("fp"), 0)}.Expr()
			}
			return api.Call{F: f, Args: args, Sig: sig}.Expr()
		}
	}
}

// changed is an expression of Core alone, of a chunk's kind.
func (g *grower) changed(chunk, depth int) api.Expr {
	kind := mach.Kind(chunk)
	switch g.below(6) {
	case 0:
		return assign(chunk, g.address(chunk, depth), g.ofKind(kind, depth))
	case 1, 2:
		op := map[int]int{api.Int: []int{api.OpAdd, api.OpSub, api.OpMod}[g.below(3)], api.Long: api.OpAdd + api.OfLong, api.Double: api.OpSubD}[kind]
		x := api.Modify{Chunk: chunk, Addr: g.address(chunk, depth), Y: g.ofKind(kind, depth), Back: g.below(2) == 0}
		x.New = op2(op, api.Old{}.Expr(), api.Arg{}.Expr())
		if g.below(3) == 0 { // its operands are worked out in either order
			x.New = op2(op, api.Comma{X: g.ofKind(kind, depth), Y: api.Old{}.Expr()}.Expr(), api.Comma{X: g.ofKind(kind, depth), Y: api.Arg{}.Expr()}.Expr())
		}
		return x.Expr()
	case 3:
		return api.Cond{X: g.any(depth), Y: g.ofKind(kind, depth), Z: g.ofKind(kind, depth)}.Expr()
	case 4:
		return api.Comma{X: g.any(depth), Y: g.ofKind(kind, depth)}.Expr()
	}
	return g.called(kind, depth)
}

func (g *grower) int(depth int) api.Expr {
	if depth == 0 {
		return []api.Expr{g.number(api.C32), temp(0), load(api.C32, g.address(api.C32, 0), 0), load([]int{api.C8S, api.C8U}[g.below(2)], g.address(api.C8S, 0), 0)}[g.below(4)]
	}
	switch g.below(12) {
	case 0:
		return op1([]int{api.OpNeg, api.OpNot, api.OpS8, api.OpU16}[g.below(4)], g.int(depth-1))
	case 1:
		return op1([]int{api.OpTruth, api.OpFalse}[g.below(2)], g.any(depth-1))
	case 2:
		return op1(api.OpInt, g.long(depth-1))
	case 3, 4, 5:
		return op2([]int{api.OpAdd, api.OpSub, api.OpMul, api.OpDiv, api.OpXor, api.OpLt, api.OpEq, api.OpShl}[g.below(8)], g.int(depth-1), g.int(depth-1))
	case 6:
		return opI([]int{api.OpAdd, api.OpAnd, api.OpLt, api.OpShr}[g.below(4)], g.int(depth-1), int64(g.below(9)))
	case 7:
		return g.compared(depth - 1)
	case 8:
		return api.And{X: g.any(depth - 1), Y: g.any(depth - 1)}.Expr()
	case 9:
		return api.Or{X: g.any(depth - 1), Y: g.any(depth - 1)}.Expr()
	}
	return g.changed([]int{api.C32, api.C32, api.C8S}[g.below(3)], depth-1)
}

func (g *grower) compared(depth int) api.Expr {
	switch g.below(3) {
	case 0:
		return op2(api.OpLtD, g.double(depth), g.double(depth))
	case 1:
		return op2(api.OpGeU+api.OfLong, g.long(depth), g.long(depth))
	}
	return op2(api.OpEq+api.OfLong, g.address(api.C32, depth), g.address(api.C32, depth))
}

func (g *grower) long(depth int) api.Expr {
	if depth == 0 {
		return []api.Expr{g.number(api.C64), temp(1), load(api.C64, g.address(api.C64, 0), 0)}[g.below(3)]
	}
	switch g.below(6) {
	case 0:
		return op1(api.OpLongS, g.int(depth-1))
	case 1, 2:
		return op2([]int{api.OpAdd, api.OpSub, api.OpMul}[g.below(3)]+api.OfLong, g.long(depth-1), g.long(depth-1))
	case 3:
		return opI(api.OpAdd+api.OfLong, g.long(depth-1), int64(g.below(9)-4))
	}
	return g.changed(api.C64, depth-1)
}

func (g *grower) double(depth int) api.Expr {
	if depth == 0 {
		return []api.Expr{g.number(api.CF64), temp(2), load(api.CF64, g.address(api.CF64, 0), 0)}[g.below(3)]
	}
	switch g.below(5) {
	case 0:
		return op1(api.OpDblS, g.int(depth-1))
	case 1, 2:
		return op2([]int{api.OpAddD, api.OpMulD, api.OpDivD}[g.below(3)], g.double(depth-1), g.double(depth-1))
	}
	return g.changed(api.CF64, depth-1)
}

func (g *grower) list(depth int) []api.Stmt {
	var list []api.Stmt
	for range 1 + g.below(4) {
		list = append(list, g.statement(depth))
	}
	return list
}

func (g *grower) statement(depth int) api.Stmt {
	if depth > 0 {
		switch g.below(7) {
		case 0:
			return api.If{X: g.any(2), Then: g.list(depth - 1), Else: g.list(depth - 1)}.Stmt()
		case 1, 2:
			return g.loop(depth - 1)
		case 3:
			return g.choice(depth - 1)
		case 4:
			return api.Block{List: g.list(depth - 1)}.Stmt()
		}
	}
	switch g.below(12) {
	case 0:
		if g.leaves > 0 {
			return api.Break{}.Stmt()
		}
	case 1:
		if g.loops > 0 {
			return api.Continue{}.Stmt()
		}
	case 2:
		return api.Goto{Name: string(rune('a' + g.below(3)))}.Stmt()
	case 3, 4:
		if g.labels < 3 {
			g.labels++
			return api.Label{Name: string(rune('a' + g.labels - 1))}.Stmt()
		}
	case 5:
		if g.below(4) == 0 {
			return ret(g.int(2))
		}
	}
	return g.plain()
}

// plain is a statement that does something and goes on.
func (g *grower) plain() api.Stmt {
	switch g.below(6) {
	case 0, 1:
		return do(g.any(3))
	case 2:
		return [](func() api.Stmt){
			func() api.Stmt { return set(0, g.int(2)) }, func() api.Stmt { return set(1, g.long(2)) },
			func() api.Stmt { return set(2, g.double(2)) }, func() api.Stmt { return set(3, g.address(api.C32, 2)) },
		}[g.below(4)]()
	case 3:
		chunk := []int{api.C32, api.C64, api.CF64, api.C8S}[g.below(4)]
		return put(chunk, g.address(chunk, 1), []int{0, 0, 0, 0, 0, 4}[g.below(6)], g.ofKind(mach.Kind(chunk), 2))
	case 4:
		s := grownSigs[g.below(len(grownSigs))]
		sig := sigOf(s.sig)
		n := map[int]int{0: -1, api.Int: 0, api.Long: 1, api.Double: 2}[sig.Result]
		if g.below(3) == 0 {
			n = -1
		}
		var args []api.Expr
		for _, k := range sig.Params {
			args = append(args, g.ofKind(k, 1))
		}
		return invoke(n, s.name, sig, args...)
	}
	return invoke(-1, "show", sigOf("iv"), g.int(1))
}

func (g *grower) loop(depth int) api.Stmt {
	x := api.Loop{After: g.below(3) == 0}
	if g.below(4) > 0 {
		x.Test = g.any(2)
	}
	g.leaves++
	g.loops++
	x.Body = g.list(depth)
	g.loops--
	outer := g.loops
	g.loops = 0 // a loop's steps have no Continue
	if g.below(2) == 0 {
		x.Step = g.list(depth)
	}
	g.loops = outer
	g.leaves--
	return x.Stmt()
}

func (g *grower) choice(depth int) api.Stmt {
	x := api.Switch{X: g.int(2)}
	if g.below(3) == 0 {
		x = api.Switch{X: g.long(2), Long: true}
	}
	g.leaves++
	for range g.below(7) {
		switch g.below(5) {
		case 0, 1:
			x.Items = append(x.Items, api.Item{Case: true, Value: uint64(g.below(4))})
		case 2:
			x.Items = append(x.Items, api.Item{Default: true})
		default:
			x.Items = append(x.Items, api.Item{S: g.statement(depth)})
		}
	}
	g.leaves--
	return x.Stmt()
}

// P8.1: grown units do what the model does, with any picks, scripts and fuels.
func TestGrownUnits(t *testing.T) {
	var ended [3]int
	for seed := range 3000 {
		g := &grower{n: uint64(seed)*0x9e3779b97f4a7c15 + 1}
		u := g.unit()
		for _, fuel := range []int{g.below(60), 500} {
			picks := make([]int, g.below(90))
			for i := range picks {
				picks[i] = g.below(7) - 3
			}
			script := []int64{int64(g.below(9)) - 2, 1, 0, 7, int64(g.below(3)) << 31}
			want, got := modelRun(u, picks, script, fuel), core.Run(u, picks, script, fuel)
			if !sameOutcome(want, got) {
				t.Fatalf("seed %d, fuel %d: %s, not %s", seed, fuel, shown(got), shown(want))
			}
			ended[got.Status]++
		}
	}
	for status, n := range ended {
		if n < 400 {
			t.Errorf("only %d ended by %d: %v", n, status, ended)
		}
	}
}
