package simpl_test

import (
	"fmt"
	"reflect"
	"testing"

	"alembic/api"
	"alembic/mach"
	"alembic/simpl"
)

// grower makes units of right Core.
type grower struct {
	n      uint64
	f      api.Func
	loops  int // how many are around, of those in whose body this stands
	leaves int // loops and switches that are around
	labels int // of the function, that stand there
	news   int // Modifies in whose New this stands
	chunk  int // of the innermost of them
}

// below is a number below n, by a rule that scatters.
func (g *grower) below(n int) int {
	g.n = g.n*6364136223846793005 + 1442695040888963407
	return int(g.n >> 33 % uint64(n))
}

// The functions that a grown unit has beside main, and how each is called.
var grownSigs = []struct{ name, sig string }{{"int", "ii"}, {"long", "ll"}, {"double", "dd"}, {"show", "iv"}, {"f", "ii"}, {"g", "ildl"}, {"h", "iv"}}

// Each function's locals, by number: an int, a long, a double, a char, four ints, an address of an int.
func grownSlots() []api.Slot {
	return []api.Slot{{Size: 4, Align: 4, Chunk: api.C32}, {Size: 8, Align: 8, Chunk: api.C64}, {Size: 8, Align: 8, Chunk: api.CF64}, {Size: 1, Align: 1, Chunk: api.C8S}, {Size: 16, Align: 4}, {Size: 8, Align: 8, Chunk: api.C64}}
}

func (g *grower) unit() api.Unit {
	u := unitWith(g.function("main", "i"), g.function("f", "ii", 0), g.function("g", "ildl", 0, 1, 2), g.function("h", "iv", 0))
	u.Vars = []api.Var{
		{Name: "gi", Size: 4, Align: 4, Init: []api.Datum{{Chunk: api.C32, V: mach.IntOf(5)}}},
		{Name: "gl", Size: 8, Align: 8}, {Name: "gd", Size: 8, Align: 8},
		{Name: "ga", Size: 16, Align: 4, Init: []api.Datum{{At: 4, Chunk: api.C32, V: mach.IntOf(-3)}, {At: 8, Chunk: api.C16U, V: mach.IntOf(9)}}},
		{Name: "gp", Size: 8, Align: 8, Init: []api.Datum{{Chunk: api.C64, Sym: "ga", Off: 8}}},
		{Name: "fp", Size: 8, Align: 8, Init: []api.Datum{{Chunk: api.C64, Sym: "f"}}},
		{Name: "fixed", Size: 3, Align: 1, Fixed: true, Init: []api.Datum{{At: 1, Chunk: api.C8S, V: mach.IntOf(7)}}},
	}
	return u
}

func (g *grower) function(name, sig string, params ...int) api.Func {
	f := api.Func{Name: name, Sig: sigOf(sig), Params: params, Locals: grownSlots()}
	g.f, g.labels = f, 0
	for n := len(params); n < 4; n++ {
		if chunk := f.Locals[n].Chunk; g.below(12) > 0 {
			f.Body = append(f.Body, do(assign(chunk, local(n), g.number(chunk))))
		}
	}
	f.Body = append(f.Body, do(assign(api.C32, op2(api.OpAdd+api.OfLong, local(4), i64(4)), g.number(api.C32))), do(assign(api.C64, local(5), local(0))))
	f.Body = append(f.Body, g.list(1+g.below(3))...)
	if g.below(9) > 0 {
		f.Body = append(f.Body, g.leave())
	}
	return f
}

func (g *grower) leave() api.Stmt { return ret(g.ofKind(g.f.Sig.Result, 2)) }

// number is a number that a chunk may hold.
func (g *grower) number(chunk int) api.Expr {
	n := int64(g.below(11) - 3)
	switch mach.Kind(chunk) {
	case api.Long:
		return i64(n)
	case api.Double:
		return api.Num{V: mach.DoubleOf([]uint64{0, 0x3ff0000000000000, 0xc004000000000000, 0x7ff8000000000000}[g.below(4)])}.Expr()
	}
	return i32(int32(n))
}

// ofKind is an expression of a kind; none of the kind 0.
func (g *grower) ofKind(kind, depth int) api.Expr {
	if g.news > 0 && kind == mach.Kind(g.chunk) && g.below(3) == 0 {
		return []api.Expr{old(), arg()}[g.below(2)]
	}
	switch kind {
	case api.Int:
		return g.int(depth)
	case api.Long:
		return g.long(depth)
	case api.Double:
		return g.double(depth)
	}
	return api.Expr{}
}

// address is an address of what a chunk may load; now and then one beyond it.
func (g *grower) address(chunk, depth int) api.Expr {
	if depth > 0 && g.below(5) == 0 {
		return comma(g.any(depth-1), g.address(chunk, depth-1))
	}
	if depth > 0 && g.below(5) == 0 {
		return cond(g.any(depth-1), g.address(chunk, depth-1), g.address(chunk, depth-1))
	}
	if depth > 0 && g.below(9) == 0 {
		return assign(api.C64, local(5), g.address(chunk, depth-1))
	}
	switch chunk {
	case api.C64:
		return []api.Expr{global("gl"), local(1)}[g.below(2)]
	case api.CF64:
		return []api.Expr{global("gd"), local(2)}[g.below(2)]
	case api.C8S, api.C8U:
		return []api.Expr{local(3), global("gi"), global("ga"), op2(api.OpAdd+api.OfLong, global("fixed"), i64(1))}[g.below(4)]
	}
	if depth > 0 && g.below(3) == 0 {
		far := op2(api.OpMul+api.OfLong, op1(api.OpLongS, op2(api.OpAnd, g.int(depth-1), i32(3))), i64(4))
		return op2(api.OpAdd+api.OfLong, []api.Expr{global("ga"), local(4)}[g.below(2)], far)
	}
	return []api.Expr{global("gi"), global("ga"), local(0), local(0), load(api.C64, global("gp")), load(api.C64, local(5))}[g.below(6)]
}

// any is an expression of any kind of number.
func (g *grower) any(depth int) api.Expr {
	return g.ofKind([]int{api.Int, api.Int, api.Long, api.Double}[g.below(4)], depth)
}

// effect is an expression for what it does: it may have no value.
func (g *grower) effect(depth int) api.Expr {
	if depth == 0 {
		return g.called(0, 0)
	}
	switch g.below(5) {
	case 0:
		return cond(g.any(depth-1), g.effect(depth-1), g.effect(depth-1))
	case 1:
		return comma(g.effect(depth-1), g.effect(depth-1))
	case 2:
		return g.called(0, depth-1)
	}
	return g.any(depth)
}

// called is a call of a function whose result is of a kind.
func (g *grower) called(kind, depth int) api.Expr {
	for {
		s := grownSigs[g.below(len(grownSigs))]
		if sig := sigOf(s.sig); sig.Result == kind {
			var args []api.Expr
			for _, k := range sig.Params {
				args = append(args, g.ofKind(k, depth))
			}
			f := global(s.name)
			if s.name == "f" && g.below(2) == 0 {
				f = comma(g.any(depth), load(api.C64, global("fp")))
			}
			return api.Call{F: f, Args: args, Sig: sig}.Expr()
		}
	}
}

// changed is an expression of Core alone, of a chunk's kind.
func (g *grower) changed(chunk, depth int) api.Expr {
	kind := mach.Kind(chunk)
	switch g.below(7) {
	case 0, 1:
		return assign(chunk, g.address(chunk, depth), g.ofKind(kind, depth))
	case 2, 3:
		return g.modified(chunk, depth)
	case 4:
		return cond(g.any(depth), g.ofKind(kind, depth), g.ofKind(kind, depth))
	case 5:
		return comma(g.effect(depth), g.ofKind(kind, depth))
	}
	return g.called(kind, depth)
}

// modified is a Modify; now and then Old and Arg stand in its New in any place, as often as may be.
func (g *grower) modified(chunk, depth int) api.Expr {
	kind := mach.Kind(chunk)
	op := map[int]int{api.Int: []int{api.OpAdd, api.OpSub, api.OpMod}[g.below(3)], api.Long: api.OpAdd + api.OfLong, api.Double: api.OpSubD}[kind]
	x := api.Modify{Chunk: chunk, Addr: g.address(chunk, depth), Y: g.ofKind(kind, depth), New: op2(op, old(), arg()), Back: g.below(2) == 0}
	if g.below(3) == 0 {
		outer := g.chunk
		g.news++
		g.chunk = chunk
		x.New = g.ofKind(kind, depth)
		g.news--
		g.chunk = outer
	}
	return x.Expr()
}

func (g *grower) int(depth int) api.Expr {
	if depth == 0 {
		return []api.Expr{g.number(api.C32), load(api.C32, g.address(api.C32, 0)), load([]int{api.C8S, api.C8U}[g.below(2)], g.address(api.C8S, 0))}[g.below(3)]
	}
	switch g.below(11) {
	case 0:
		return op1([]int{api.OpNeg, api.OpNot, api.OpS8, api.OpU16}[g.below(4)], g.int(depth-1))
	case 1:
		return op1([]int{api.OpTruth, api.OpFalse}[g.below(2)], g.any(depth-1))
	case 2:
		return op1(api.OpInt, g.long(depth-1))
	case 3, 4, 5:
		return op2([]int{api.OpAdd, api.OpSub, api.OpMul, api.OpDiv, api.OpXor, api.OpLt, api.OpEq, api.OpShl}[g.below(8)], g.ofKind(api.Int, depth-1), g.ofKind(api.Int, depth-1))
	case 6:
		return g.compared(depth - 1)
	case 7:
		return api.And{X: g.any(depth - 1), Y: g.any(depth - 1)}.Expr()
	case 8:
		return api.Or{X: g.any(depth - 1), Y: g.any(depth - 1)}.Expr()
	}
	return g.changed([]int{api.C32, api.C32, api.C8S}[g.below(3)], depth-1)
}

func (g *grower) compared(depth int) api.Expr {
	switch g.below(3) {
	case 0:
		return op2(api.OpLtD, g.double(depth), g.double(depth))
	case 1:
		return op2(api.OpGeU+api.OfLong, g.long(depth), g.long(depth))
	}
	return op2(api.OpEq+api.OfLong, g.address(api.C32, depth), g.address(api.C32, depth))
}

func (g *grower) long(depth int) api.Expr {
	if depth == 0 {
		return []api.Expr{g.number(api.C64), load(api.C64, g.address(api.C64, 0))}[g.below(2)]
	}
	switch g.below(5) {
	case 0:
		return op1(api.OpLongS, g.int(depth-1))
	case 1, 2:
		return op2([]int{api.OpAdd, api.OpSub, api.OpMul}[g.below(3)]+api.OfLong, g.ofKind(api.Long, depth-1), g.ofKind(api.Long, depth-1))
	}
	return g.changed(api.C64, depth-1)
}

func (g *grower) double(depth int) api.Expr {
	if depth == 0 {
		return []api.Expr{g.number(api.CF64), load(api.CF64, g.address(api.CF64, 0))}[g.below(2)]
	}
	switch g.below(5) {
	case 0:
		return op1(api.OpDblS, g.int(depth-1))
	case 1, 2:
		return op2([]int{api.OpAddD, api.OpMulD, api.OpDivD}[g.below(3)], g.ofKind(api.Double, depth-1), g.ofKind(api.Double, depth-1))
	}
	return g.changed(api.CF64, depth-1)
}

func (g *grower) list(depth int) []api.Stmt {
	var list []api.Stmt
	for range 1 + g.below(3) {
		list = append(list, g.statement(depth))
	}
	return list
}

func (g *grower) statement(depth int) api.Stmt {
	if depth > 0 {
		switch g.below(7) {
		case 0:
			return api.If{X: g.any(2), Then: g.list(depth - 1), Else: g.list(depth - 1)}.Stmt()
		case 1, 2:
			return g.loop(depth - 1)
		case 3:
			return g.choice(depth - 1)
		case 4:
			return api.Block{List: g.list(depth - 1)}.Stmt()
		}
	}
	switch g.below(12) {
	case 0:
		if g.leaves > 0 {
			return api.Break{}.Stmt()
		}
	case 1:
		if g.loops > 0 {
			return api.Continue{}.Stmt()
		}
	case 2:
		if g.labels > 0 {
			return api.Goto{Name: g.label(g.below(g.labels))}.Stmt()
		}
	case 3, 4:
		if g.labels < 3 {
			g.labels++
			return api.Label{Name: g.label(g.labels - 1)}.Stmt()
		}
	case 5:
		if g.below(4) == 0 {
			return g.leave()
		}
	case 6, 7:
		return do(calls("show", sigOf("iv"), g.int(1)))
	}
	return do(g.effect(1 + g.below(3)))
}

func (g *grower) label(n int) string { return string(rune('a' + n)) }

func (g *grower) loop(depth int) api.Stmt {
	x := api.Loop{After: g.below(3) == 0}
	if g.below(4) > 0 {
		x.Test = g.any(2)
	}
	g.leaves++
	g.loops++
	x.Body = g.list(depth)
	g.loops--
	outer := g.loops
	g.loops = 0 // a loop's steps have no Continue
	if g.below(2) == 0 {
		x.Step = g.list(depth)
	}
	g.loops = outer
	g.leaves--
	return x.Stmt()
}

func (g *grower) choice(depth int) api.Stmt {
	x := api.Switch{X: g.int(2)}
	if g.below(3) == 0 {
		x = api.Switch{X: g.long(2), Long: true}
	}
	other := g.below(6)
	g.leaves++
	for n := range g.below(7) {
		switch {
		case n == other:
			x.Items = append(x.Items, api.Item{Default: true})
		case g.below(2) == 0:
			x.Items = append(x.Items, api.Item{Case: true, Value: uint64(n)})
		default:
			x.Items = append(x.Items, api.Item{S: g.statement(depth)})
		}
	}
	g.leaves--
	return x.Stmt()
}

func grownUnit(seed int) (*grower, api.Unit) {
	g := &grower{n: uint64(seed)*0x9e3779b97f4a7c15 + 1}
	return g, g.unit()
}

// P9.1, P9.2, P9.3, P9.4: the Light of grown units.
func TestGrownUnits(t *testing.T) {
	var ended [3]int
	for seed := range 3000 {
		what := fmt.Sprint("seed ", seed)
		g, u := grownUnit(seed)
		light := lightOf(t, what, u)
		script := []int64{int64(g.below(9)) - 2, 1, 0, 7, int64(g.below(3)) << 31}
		lightFuel := 1200
		if seed%100 == 0 {
			lightFuel = api.MaxFuel
		}
		ended[compare(t, what, u, light, script, lightFuel, g.below(9), g.below(60), 200).Status]++
		_, same := grownUnit(seed)
		if !reflect.DeepEqual(u, same) {
			t.Errorf("seed %d was changed", seed)
		}
		if !reflect.DeepEqual(simpl.Unit(same), light) {
			t.Errorf("seed %d is something else the second time", seed)
		}
		if t.Failed() {
			t.Fatalf("seed %d: %s\nis\n%s", seed, fmt.Sprintf("%+v", u.Funcs), fmt.Sprint(light.Funcs))
		}
	}
	for status, n := range ended {
		if n < 500 {
			t.Errorf("only %d ended by %d: %v", n, status, ended)
		}
	}
}
