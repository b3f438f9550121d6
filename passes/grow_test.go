package passes

import (
	"maps"
	"slices"

	"alembic/api"
	"alembic/mach"
)

// grower makes units of right Light.
type grower struct {
	n      uint64
	f      api.Func
	locals map[string][]int // by what they are for
	temps  map[string][]int
	loops  int // how many are around, of those in whose body this stands
	leaves int // loops and switches that are around
	labels int // of the function, that stand there
}

// below is a number below n, by a rule that scatters.
func (g *grower) below(n int) int {
	g.n = g.n*6364136223846793005 + 1442695040888963407
	return int(g.n >> 33 % uint64(n))
}

func oneOf[T any](g *grower, list ...T) T { return list[g.below(len(list))] }

// What a local may be for: those named open and bits are asked for by their addresses, and as other chunks, too; at holds an address of an int.
func slotFor(use string) api.Slot {
	return map[string]api.Slot{
		"int": slotOf(api.C32), "long": slotOf(api.C64), "double": slotOf(api.CF64), "char": slotOf(api.C8S), "short": slotOf(api.C16U),
		"open": slotOf(api.C32), "bits": slotOf(api.CF64), "at": slotOf(api.C64),
		"array": {Size: 16, Align: 4}, "chars": {Size: 9, Align: 1}, "nothing": {Align: 1},
	}[use]
}

// kindFor is the kind of number that a scalar local of a use holds.
func kindFor(use string) int { return mach.Kind(slotFor(use).Chunk) }

// The functions of a grown unit: what their parameters are for (at first in the text of a use its kind's letter).
var grownFuncs = []struct {
	name, sig string
	params    []string
}{{"main", "i", nil}, {"f", "ii", []string{"int"}}, {"g", "ildl", []string{"int", "long", "double"}}, {"h", "iv", []string{"int"}}, {"p", "lii", []string{"at", "int"}}}

func (g *grower) unit() api.Unit {
	u := unitWith()
	for _, f := range grownFuncs {
		u.Funcs = append(u.Funcs, g.function(f.name, f.sig, f.params))
	}
	u.Vars = []api.Var{
		{Name: "gi", Size: 4, Align: 4, Init: []api.Datum{{Chunk: api.C32, V: mach.IntOf(5)}}},
		{Name: "gl", Size: 8, Align: 8}, {Name: "gd", Size: 8, Align: 8},
		{Name: "ga", Size: 16, Align: 4, Init: []api.Datum{{At: 4, Chunk: api.C32, V: mach.IntOf(-3)}}},
		{Name: "fp", Size: 8, Align: 8, Init: []api.Datum{{Chunk: api.C64, Sym: "f"}}},
	}
	return u
}

func (g *grower) function(name, sig string, params []string) api.Func {
	g.f = api.Func{Name: name, Sig: sigOf(sig)}
	g.locals, g.temps, g.labels = map[string][]int{}, map[string][]int{}, 0
	for _, use := range []string{"int", "long", "double", "at"} {
		g.newTemp(use)
	}
	given := map[string][]int{} // the locals and temporaries that parameters are
	for _, use := range params {
		g.param(use, given)
	}
	for _, use := range g.shuffled("int", "int", "long", "double", "char", "short", "open", "open", "bits", "at", "array", "chars", "nothing") {
		if g.below(8) > 0 {
			g.newLocal(use)
		}
	}
	g.begin(given["local"], given["temp"])
	g.f.Body = append(g.f.Body, g.list(1+g.below(3))...)
	if g.below(9) > 0 {
		g.f.Body = append(g.f.Body, g.leave())
	}
	return g.f
}

func (g *grower) shuffled(list ...string) []string {
	for i := range list {
		k := g.below(i + 1)
		list[i], list[k] = list[k], list[i]
	}
	return list
}

func (g *grower) newTemp(use string) int {
	g.temps[use] = append(g.temps[use], g.f.Temps)
	g.f.Temps++
	return g.f.Temps - 1
}

func (g *grower) newLocal(use string) int {
	g.locals[use] = append(g.locals[use], len(g.f.Locals))
	g.f.Locals = append(g.f.Locals, slotFor(use))
	return len(g.f.Locals) - 1
}

// param is a parameter that comes as a local or as a temporary, behind others.
func (g *grower) param(use string, given map[string][]int) {
	if g.below(4) == 0 {
		n := g.newTemp(use)
		given["temp"] = append(given["temp"], n)
		g.f.Params = append(g.f.Params, -1-n)
		return
	}
	for _, other := range g.shuffled("int", "char", "array", "long") {
		if g.below(4) == 0 {
			g.newLocal(other)
		}
	}
	switch use {
	case "int":
		use = oneOf(g, "int", "int", "char", "short", "open")
	case "double":
		use = oneOf(g, "double", "bits")
	}
	n := g.newLocal(use)
	given["local"] = append(given["local"], n)
	g.f.Params = append(g.f.Params, n)
}

// begin sets most of what isn't given.
func (g *grower) begin(locals, temps []int) {
	for _, use := range slices.Sorted(maps.Keys(g.locals)) {
		for _, n := range g.locals[use] {
			if !slices.Contains(locals, n) && g.below(14) > 0 {
				g.f.Body = append(g.f.Body, g.filled(use, n)...)
			}
		}
	}
	for _, use := range slices.Sorted(maps.Keys(g.temps)) {
		for _, n := range g.temps[use] {
			if !slices.Contains(temps, n) && g.below(14) > 0 {
				g.f.Body = append(g.f.Body, set(n, g.numberFor(use)))
			}
		}
	}
}

// numberFor is what something of a use may be at the beginning.
func (g *grower) numberFor(use string) api.Expr {
	if use == "at" {
		return g.still()
	}
	return g.number(kindFor(use))
}

// still is an address of an int that hangs on nothing that is set.
func (g *grower) still() api.Expr {
	list := []api.Expr{global("gi"), behind(global("ga"), 12)}
	for _, use := range []string{"open", "array"} {
		for _, n := range g.locals[use] {
			list = append(list, local(n), local(n))
		}
	}
	return oneOf(g, list...)
}

// filled lets a local be what it is for.
func (g *grower) filled(use string, n int) []api.Stmt {
	var list []api.Stmt
	switch use {
	case "nothing":
	case "array":
		for i := range 4 {
			list = append(list, put(api.C32, behind(local(n), int64(4*i)), g.number(api.Int)))
		}
	case "chars":
		list = append(list, put(api.C64, local(n), g.number(api.Long)), put(api.C8S, behind(local(n), 8), g.number(api.Int)))
	default:
		list = append(list, put(slotFor(use).Chunk, local(n), g.numberFor(use)))
	}
	return list
}

// number is a number of a kind.
func (g *grower) number(kind int) api.Expr {
	n := int64(g.below(11) - 3)
	if g.below(9) == 0 {
		n = oneOf(g, edges...)
	}
	switch kind {
	case api.Long:
		return i64(n)
	case api.Double:
		return api.Num{V: mach.DoubleOf([]uint64{0, 0x3ff0000000000000, 0xc004000000000000, 0x7ff8000000000000}[g.below(4)])}.Expr()
	}
	return i32(int32(n))
}

// local is a local of a use, or, where there is none, a variable of its chunk.
func (g *grower) local(use string) api.Expr {
	if list := g.locals[use]; len(list) > 0 {
		return local(oneOf(g, list...))
	}
	switch slotFor(use).Chunk {
	case api.C64:
		return global("gl")
	case api.CF64:
		return global("gd")
	}
	return global("ga")
}

func (g *grower) temp(use string) api.Expr { return temp(oneOf(g, g.temps[use]...)) }

// address is an address of an int; now and then one beyond what is there.
func (g *grower) address(depth int) api.Expr {
	switch g.below(8) {
	case 0, 1:
		return g.local("open")
	case 2:
		return load(api.C64, g.local("at"))
	case 3:
		return g.temp("at")
	case 4:
		if depth > 0 {
			far := op2(api.OpMul+api.OfLong, op1(api.OpLongS, op2(api.OpAnd, g.int(depth-1), i32(3))), i64(4))
			return op2(api.OpAdd+api.OfLong, g.local("array"), far)
		}
	case 5:
		if g.below(12) == 0 {
			return behind(g.local(oneOf(g, "array", "open", "chars")), int64(4*g.below(6)-4))
		}
	case 6:
		array := g.local("array")
		return oneOf(g, array, op2(api.OpAdd+api.OfLong, i64(8), array), op2(api.OpSub+api.OfLong, behind(array, 4008), i64(4000)))
	}
	return g.still()
}

// place is a chunk, and an address where it is loaded or stored.
func (g *grower) place(depth int) (int, api.Expr) {
	switch g.below(14) {
	case 0, 1, 2:
		return api.C32, g.local("int")
	case 3:
		return api.C64, g.local("long")
	case 4:
		return api.CF64, g.local("double")
	case 5:
		return api.C8S, g.local("char")
	case 6:
		return api.C16U, g.local("short")
	case 7:
		return oneOf(g, api.C64, api.CF64), g.local("bits")
	case 8:
		return oneOf(g, api.C8U, api.C16S, api.C32), g.local("open")
	case 9:
		return oneOf(g, api.C64, api.C32, api.C16U), g.local("chars")
	case 10:
		return api.C8U, behind(g.local("chars"), int64(g.below(9)))
	}
	return api.C32, g.address(depth)
}

// loaded is what stands somewhere, of a kind.
func (g *grower) loaded(kind, depth int) api.Expr {
	for {
		if chunk, at := g.place(depth); mach.Kind(chunk) == kind {
			return load(chunk, at)
		}
	}
}

// ofKind is an expression of a kind; none of the kind 0.
func (g *grower) ofKind(kind, depth int) api.Expr {
	switch kind {
	case api.Int:
		return g.int(depth)
	case api.Long:
		return g.long(depth)
	case api.Double:
		return g.double(depth)
	}
	return api.Expr{}
}

// any is an expression of any kind of number, or an address.
func (g *grower) any(depth int) api.Expr {
	if g.below(9) == 0 {
		return g.address(depth)
	}
	return g.ofKind(oneOf(g, api.Int, api.Int, api.Long, api.Double), depth)
}

func (g *grower) int(depth int) api.Expr {
	if depth == 0 {
		return oneOf(g, g.number(api.Int), g.temp("int"), g.loaded(api.Int, 0), g.loaded(api.Int, 0))
	}
	switch g.below(9) {
	case 0:
		return op1(oneOf(g, api.OpNeg, api.OpNot, api.OpS8, api.OpU16), g.int(depth-1))
	case 1:
		return op1(oneOf(g, api.OpTruth, api.OpFalse), g.any(depth-1))
	case 2:
		return op1(api.OpInt, g.long(depth-1))
	case 3, 4, 5:
		return op2(oneOf(g, api.OpAdd, api.OpSub, api.OpSub, api.OpMul, api.OpDiv, api.OpXor, api.OpLt, api.OpGtU, api.OpEq, api.OpShl), g.int(depth-1), g.int(depth-1))
	case 6:
		return g.compared(depth - 1)
	}
	return g.loaded(api.Int, depth)
}

func (g *grower) compared(depth int) api.Expr {
	switch g.below(4) {
	case 0:
		return op2(api.OpLtD, g.double(depth), g.double(depth))
	case 1:
		return op2(api.OpGeU+api.OfLong, g.long(depth), g.long(depth))
	case 2:
		array := g.local("array")
		return op2(api.OpLtU+api.OfLong, behind(array, int64(4*g.below(5))), behind(array, int64(4*g.below(5))))
	}
	return op2(oneOf(g, api.OpEq, api.OpNe)+api.OfLong, g.address(depth), oneOf(g, g.address(depth), g.address(depth), i64(0)))
}

func (g *grower) long(depth int) api.Expr {
	if depth == 0 {
		return oneOf(g, g.number(api.Long), g.temp("long"), g.loaded(api.Long, 0))
	}
	switch g.below(6) {
	case 0:
		return op1(api.OpLongS, g.int(depth-1))
	case 1, 2:
		return op2(oneOf(g, api.OpAdd, api.OpSub, api.OpMul)+api.OfLong, g.long(depth-1), g.long(depth-1))
	case 3:
		array := g.local("array")
		return op2(api.OpSub+api.OfLong, behind(array, int64(4*g.below(5))), array)
	}
	return g.loaded(api.Long, depth)
}

func (g *grower) double(depth int) api.Expr {
	if depth == 0 {
		return oneOf(g, g.number(api.Double), g.temp("double"), g.loaded(api.Double, 0))
	}
	switch g.below(5) {
	case 0:
		return op1(api.OpDblS, g.int(depth-1))
	case 1, 2:
		return op2(oneOf(g, api.OpAddD, api.OpMulD, api.OpDivD), g.double(depth-1), g.double(depth-1))
	}
	return g.loaded(api.Double, depth)
}

func (g *grower) list(depth int) []api.Stmt {
	var list []api.Stmt
	for range 1 + g.below(3) {
		list = append(list, g.statement(depth))
	}
	return list
}

func (g *grower) leave() api.Stmt { return ret(g.ofKind(g.f.Sig.Result, 2)) }

func (g *grower) statement(depth int) api.Stmt {
	if depth > 0 {
		switch g.below(7) {
		case 0:
			return api.If{X: g.any(2), Then: g.list(depth - 1), Else: g.list(depth - 1)}.Stmt()
		case 1, 2:
			return g.loop(depth - 1)
		case 3:
			return g.choice(depth - 1)
		case 4:
			return api.Block{List: g.list(depth - 1)}.Stmt()
		}
	}
	switch g.below(14) {
	case 0:
		if g.leaves > 0 {
			return api.Break{}.Stmt()
		}
	case 1:
		if g.loops > 0 {
			return api.Continue{}.Stmt()
		}
	case 2:
		if g.labels > 0 {
			return api.Goto{Name: g.label(g.below(g.labels))}.Stmt()
		}
	case 3, 4:
		if g.labels < 3 {
			g.labels++
			return api.Label{Name: g.label(g.labels - 1)}.Stmt()
		}
	case 5:
		if g.below(4) == 0 {
			return g.leave()
		}
	case 6, 7:
		return invoke(-1, "show", "iv", g.int(1))
	case 8, 9:
		return g.called()
	}
	return g.simple(1 + g.below(2))
}

// simple is a Set or a Put.
func (g *grower) simple(depth int) api.Stmt {
	switch g.below(5) {
	case 0:
		use := oneOf(g, "int", "long", "double")
		return set(g.temp(use).Temp().N, g.ofKind(kindFor(use), depth))
	case 1:
		if at := g.address(depth); g.below(2) == 0 {
			return set(g.temp("at").Temp().N, at)
		} else if n := g.local("at"); n.Kind == api.KLocal {
			return put(api.C64, n, at)
		}
	}
	chunk, at := g.place(depth)
	return put(chunk, at, g.ofKind(mach.Kind(chunk), depth))
}

// called is a call of a function, whose result is set or not.
func (g *grower) called() api.Stmt {
	s := grownFuncs[1+g.below(len(grownFuncs)-1)]
	sig := sigOf(s.sig)
	var args []api.Expr
	for i, k := range sig.Params {
		if s.params[i] == "at" {
			args = append(args, g.address(1))
		} else {
			args = append(args, g.ofKind(k, 1))
		}
	}
	n := -1
	if sig.Result != 0 && g.below(3) > 0 {
		n = g.temp([]string{"", "int", "long"}[sig.Result]).Temp().N
	}
	f := global(s.name)
	if s.name == "f" && g.below(2) == 0 {
		f = load(api.C64, global("fp"))
	}
	return api.Invoke{N: n, F: f, Args: args, Sig: sig}.Stmt()
}

func (g *grower) label(n int) string { return string(rune('a' + n)) }

func (g *grower) loop(depth int) api.Stmt {
	x := api.Loop{After: g.below(3) == 0}
	if g.below(4) > 0 {
		x.Test = g.any(2)
	}
	g.leaves++
	g.loops++
	x.Body = g.list(depth)
	g.loops--
	outer := g.loops
	g.loops = 0 // a loop's steps have no Continue
	if g.below(2) == 0 {
		x.Step = g.list(depth)
	}
	g.loops = outer
	g.leaves--
	return x.Stmt()
}

func (g *grower) choice(depth int) api.Stmt {
	x := api.Switch{X: g.int(2)}
	if g.below(3) == 0 {
		x = api.Switch{X: g.long(2), Long: true}
	}
	other := g.below(6)
	g.leaves++
	for n := range g.below(9) {
		switch {
		case n == other:
			x.Items = append(x.Items, api.Item{Default: true})
		case g.below(2) == 0:
			x.Items = append(x.Items, g.newCase(x))
		default:
			x.Items = append(x.Items, api.Item{S: g.statement(depth)})
		}
	}
	g.leaves--
	return x.Stmt()
}

// newCase is a case that a switch doesn't have.
func (g *grower) newCase(x api.Switch) api.Item {
	for {
		kind := map[bool]int{false: api.Int, true: api.Long}[x.Long]
		v := g.number(kind).V.Bits
		if !slices.ContainsFunc(x.Items, func(i api.Item) bool { return i.Case && i.Value == v }) {
			return api.Item{Case: true, Value: v}
		}
	}
}

func grownUnit(seed int) (*grower, api.Unit) {
	g := &grower{n: uint64(seed)*0x9e3779b97f4a7c15 + 1}
	return g, g.unit()
}
