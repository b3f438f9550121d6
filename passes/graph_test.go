package passes

import (
	"fmt"
	"math"
	"reflect"
	"slices"
	"strings"
	"testing"

	"alembic/api"
	"alembic/core"
	"alembic/graph"
	"alembic/layout"
	"alembic/locals"
	"alembic/mach"
	"alembic/rtl"
	"alembic/trace"
)

// graphOf is what graph makes of a unit of Sel, which must be what the document says (P14.1).
func graphOf(t testing.TB, what string, u api.Unit) api.Graphs {
	t.Helper()
	made := graph.Unit(u)
	if !rtl.Right(made) {
		t.Errorf("%s\nit isn't right: %+v", what, made)
	}
	if sharing(u, made) {
		t.Errorf("%s\nmemory is shared", what)
	}
	if !reflect.DeepEqual(graph.Unit(u), made) {
		t.Errorf("%s\nis something else the second time", what)
	}
	if !reflect.DeepEqual(made.Vars, u.Vars) || !reflect.DeepEqual(made.Externs, u.Externs) || len(made.Funcs) != len(u.Funcs) {
		t.Fatalf("%s\nis of other parts: %+v", what, made)
	}
	for i, f := range u.Funcs {
		if got := made.Funcs[i]; got.Name != f.Name || got.Frame != f.Frame || !reflect.DeepEqual(got.Sig, f.Sig) {
			t.Errorf("%s\n%s, of %d bytes, %+v", what, got.Name, got.Frame, got.Sig)
		}
	}
	return made
}

// compareGraph asks whether the RTL of a unit of Sel means the same (P14.2); the outcome.
func compareGraph(t testing.TB, what string, u api.Unit, made api.Graphs, script []int64, madeFuel int, fuels ...int) api.Outcome {
	t.Helper()
	b := rtl.Run(made, script, madeFuel)
	for _, fuel := range fuels {
		a := core.Run(u, nil, script, fuel)
		if !trace.Refines(a, b) {
			t.Errorf("%s\nfuel %d: %s doesn't refine %s", what, fuel, shown(b), shown(a))
		}
		if a.Status != api.Running && b.Status == api.Running && (a.Steps+2)*2*costOf(u) <= madeFuel {
			t.Errorf("%s\nfuel %d: %s comes to no end, but %s", what, fuel, shown(b), shown(a))
		}
	}
	return b
}

// compareGraphEnds asks, beside that, whether both come to the same end, wrong or not, where they come to one.
func compareGraphEnds(t testing.TB, what string, u api.Unit, made api.Graphs, script []int64, madeFuel int, fuels ...int) {
	t.Helper()
	b := compareGraph(t, what, u, made, script, madeFuel, fuels...)
	for _, fuel := range fuels {
		a := core.Run(u, nil, script, fuel)
		if a.Status != api.Running && b.Status != api.Running && !trace.Same(a, b) {
			t.Errorf("%s\nfuel %d: %s, not %s", what, fuel, shown(b), shown(a))
		}
	}
}

// codeText is a function's code: its instructions in their order, with strokes between; r and a register's number, and where it goes on, if that isn't the next one.
func codeText(f api.Graph) string {
	var parts []string
	for n, i := range f.Code {
		text := instrText(i)
		switch {
		case i.Kind == api.ICond:
			text += fmt.Sprintf(" %d %d", i.Next, i.Else)
		case i.Kind != api.ITail && i.Kind != api.IReturn && i.Next != n+1:
			text += fmt.Sprintf(" -> %d", i.Next)
		}
		parts = append(parts, text)
	}
	return strings.Join(parts, "; ")
}

func instrText(i api.Instr) string {
	args := ""
	for _, r := range i.Args {
		args += fmt.Sprint(" r", r)
	}
	dst := fmt.Sprintf("r%d = ", i.Dst)
	switch {
	case i.Kind == api.INop:
		return "nop"
	case i.Kind == api.ILoad:
		return fmt.Sprintf("%s%s%s %+d", dst, chunkText(i.Chunk), args, i.Off)
	case i.Kind == api.IStore:
		return fmt.Sprintf("put %s%s %+d", chunkText(i.Chunk), args, i.Off)
	case i.Kind == api.ICall && i.Dst == -1:
		return "call " + i.Sym + args
	case i.Kind == api.ICall:
		return dst + "call " + i.Sym + args
	case i.Kind == api.ICond:
		return "if" + args
	case i.Kind == api.IReturn:
		return "return" + args
	case i.Op == api.OpMove:
		return dst + args[1:]
	case i.Op == api.OpNum:
		return dst + exprText(api.Num{V: i.V}.Expr())
	case i.Op == api.OpGlobal:
		return dst + "@" + i.Sym
	case i.Op == api.OpFrame:
		return dst + "f" + fmt.Sprint(i.Off)
	case i.Op > api.WithN:
		return fmt.Sprintf("%s%s%s #%d", dst, opText(i.Op-api.WithN), args, i.N)
	}
	return dst + opText(i.Op) + args
}

// P14.1, P14.2: what becomes of bodies of a function of the Sig ildi whose parameters are the temporaries 0 to 2.
func TestCode(t *testing.T) {
	for _, r := range []struct {
		want string
		body []api.Stmt
	}{
		{"return", nil},
		{"return r0", []api.Stmt{ret(temp(0))}},
		{"r3 = add r0 #1; return r3", []api.Stmt{ret(opI(api.OpAdd, temp(0), 1))}},
		{"r4 = 5; r3 = sub r0 r4; return r3", []api.Stmt{ret(op2(api.OpSub, temp(0), i32(5)))}},
		{"r0 = neg r0; return", []api.Stmt{set(0, op1(api.OpNeg, temp(0)))}},
		{"r3 = @gi; put c32 r3 r0 +4; return", []api.Stmt{api.Put{Chunk: api.C32, Addr: global("gi"), Off: 4, X: temp(0)}.Stmt()}},
		{"r4 = f8; r3 = c32 r4 -4; return r3", []api.Stmt{ret(api.Load{Chunk: api.C32, Addr: frame(8), Off: -4}.Expr())}},
		{"if r0 2 1; return; return r0", []api.Stmt{api.If{X: temp(0), Then: []api.Stmt{ret(temp(0))}}.Stmt()}},
		{"r3 = 95 r1; if r3 3 2; return; return r0", []api.Stmt{api.If{X: temp(1), Then: []api.Stmt{ret(temp(0))}}.Stmt()}},
		{"r4 = D0; r3 = 67 r2 r4; if r3 4 3; return; return r0", []api.Stmt{api.If{X: temp(2), Then: []api.Stmt{ret(temp(0))}}.Stmt()}},
		{"call show r0; return", []api.Stmt{invoke(-1, "show", "iv", temp(0))}},
		{"r0 = call int r0; return r0", []api.Stmt{invoke(0, "int", "ii", temp(0)), ret(temp(0))}},
		{"r3 = @gi; r0 = call  r3 r0; return", []api.Stmt{invoke(0, "gi", "ii", temp(0))}},
		{"r0 = call  r1 r0; return", []api.Stmt{api.Invoke{N: 0, F: temp(1), Args: []api.Expr{temp(0)}, Sig: sigOf("ii")}.Stmt()}},
		{"r3 = 1; return", []api.Stmt{set(3, i32(1))}},
		{"return", []api.Stmt{set(3, temp(3))}},
		{"r3 = r0; return r3", []api.Stmt{set(3, temp(0)), ret(temp(3))}},
		{"nop -> 0", []api.Stmt{api.Label{Name: "a"}.Stmt(), api.Goto{Name: "a"}.Stmt()}},
	} {
		f := api.Func{Name: "f", Sig: sigOf("ildi"), Params: []int{-1, -2, -3}, Temps: 4, Frame: 16, Body: r.body}
		u := unitWith(f)
		u.Vars = []api.Var{{Name: "gi", Size: 8}}
		if got := codeText(graphOf(t, r.want, u).Funcs[0]); got != r.want {
			t.Errorf("%s\nis\n%s\nnot\n%s", bodyText(r.body), got, r.want)
		}
	}
}

func opI(op int, x api.Expr, n int64) api.Expr { return api.OpI{Op: op, X: x, N: n}.Expr() }

// mixed is a main of temporaries each of which may be anything at any time, and what it shows as Sel and as RTL.
type mixed struct {
	want string
	body []api.Stmt
}

// P14.2: a temporary may have values of any kinds.
func TestMixedTemporaries(t *testing.T) {
	half := api.Num{V: mach.DoubleOf(0x3fe0000000000000)}.Expr()
	show := func(x api.Expr) api.Stmt { return invoke(-1, "show", "iv", x) }
	truth, not := op1(api.OpTruth, temp(0)), op1(api.OpFalse, temp(0))
	both := func(list ...api.Stmt) []api.Stmt { return append(list, show(truth), show(not), ret(i32(0))) }
	undefined := load(api.C32, frame(0))
	for _, r := range []mixed{
		{"show(3); double(0x3fe0000000000000) = 0x0000000000000000; exited 3", []api.Stmt{set(0, i32(3)), show(temp(0)), set(1, temp(0)), set(0, half), invoke(-1, "double", "dd", temp(0)), ret(temp(1))}},
		{"show(1); show(0); exited 0", both(set(0, i32(3)), set(0, half))},
		{"show(1); show(0); exited 0", both(set(0, half), set(0, i32(3)))},
		{"show(0); show(1); exited 0", both(set(0, half), set(0, i32(0)))},
		{"show(0); show(1); exited 0", both(set(0, i32(1)), set(0, api.Num{V: mach.DoubleOf(1 << 63)}.Expr()))},
		{"show(1); show(0); exited 0", both(set(0, i32(0)), set(0, half), set(0, global("int")))},
		{"show(0); show(1); exited 0", both(set(0, half), set(0, i32(1)), set(0, i64(0)))},
		{"show(1); show(0); exited 0", both(set(0, half), set(0, i32(0)), set(0, i64(1<<32)))},
		{"wrong", both(set(0, half), set(0, undefined))},
		{"wrong", both(set(0, half), set(0, i32(1)), set(0, temp(3)))},
		{"wrong", both(set(1, half), set(1, i32(1)), set(0, half), set(0, i32(1)), set(0, temp(2)), set(2, temp(1)))},
		{"show(1); show(0); exited 0", both(set(1, half), set(0, i32(0)), set(0, temp(1)))},
		{"show(0); show(1); exited 0", both(set(1, half), set(0, temp(1)), set(0, i32(0)))},
		{"show(1); show(0); exited 0", both(set(1, i32(0)), set(1, half), set(0, temp(1)))},
		{"show(0); show(1); exited 0", both(set(1, half), set(1, i32(0)), set(0, temp(1)))},
		{"show(0); show(1); exited 0", both(set(1, half), set(2, temp(1)), set(2, i32(0)), set(0, temp(2)))},
		{"wrong", both()},
		{"wrong", both(set(0, temp(1)), set(1, temp(0)))},
		{"wrong", []api.Stmt{set(0, i32(3)), set(0, half), ret(op1(api.OpNeg, temp(0)))}},
		{"wrong", []api.Stmt{set(0, half), set(0, i32(3)), set(1, op1(api.OpNegD, temp(0))), ret(temp(0))}},
		{"wrong", []api.Stmt{set(0, i32(3)), set(0, half), ret(temp(0))}},
		{"wrong", []api.Stmt{set(0, i32(3)), set(0, half), set(1, temp(0)), ret(temp(1))}},
		{"wrong", []api.Stmt{set(0, half), show(temp(0)), ret(i32(0))}},
		{"wrong", []api.Stmt{set(0, i32(3)), set(0, half), show(temp(0)), ret(i32(0))}},
		{"int(7) = 4; long(7L) = 5L; double(0x3fe0000000000000) = 0x4018000000000000; show(1); exited 6", []api.Stmt{invoke(0, "int", "ii", i32(7)), invoke(0, "long", "ll", i64(7)), invoke(0, "double", "dd", half), show(truth), ret(op1(api.OpIntD, temp(0)))}},
		{"int(7) = 4; long(7L) = 5L; show(1); exited 5", []api.Stmt{invoke(0, "int", "ii", i32(7)), invoke(0, "long", "ll", i64(7)), show(truth), ret(op1(api.OpInt, temp(0)))}},
		{"exited 3", []api.Stmt{set(0, i32(3)), api.If{X: temp(0), Then: []api.Stmt{set(0, half)}}.Stmt(), api.If{X: temp(0), Then: []api.Stmt{ret(i32(3))}}.Stmt()}},
		{"exited 4", []api.Stmt{set(0, i32(3)), api.Loop{Test: temp(0), Body: []api.Stmt{set(0, api.Num{V: mach.DoubleOf(0)}.Expr())}}.Stmt(), ret(i32(4))}},
		{"wrong", []api.Stmt{api.If{X: temp(0)}.Stmt(), ret(i32(4))}},
		{"wrong", []api.Stmt{set(0, op1(api.OpTruth, temp(1))), ret(i32(4))}},
		{"exited 4", []api.Stmt{set(0, temp(1)), ret(i32(4))}},
	} {
		u := unitWith(api.Func{Name: "main", Sig: sigOf("i"), Temps: 4, Frame: 8, Body: r.body})
		what := bodyText(r.body)
		var script []int64
		if strings.HasPrefix(r.want, "int") {
			script = []int64{4, 5, 6}
		}
		g := graphOf(t, what, u)
		compareGraphEnds(t, what, u, g, script, api.MaxFuel, 0, 1, 2, 3, 4, 5, api.MaxFuel)
		for _, got := range []string{shown(core.Run(u, nil, script, api.MaxFuel)), shown(rtl.Run(g, script, api.MaxFuel))} {
			if got, _, _ = strings.Cut(got, " ["); got != r.want {
				t.Errorf("%s: %s, not %s", what, got, r.want)
			}
		}
	}
}

// mixer makes units of right Sel whose temporaries have values of many kinds.
type mixer struct {
	grower
	kinds [5]int // what the temporaries are, if all ways were gone
	exact bool   // whether what is stored is always the result of an operation
}

func (g *mixer) unit() api.Unit {
	u := unitWith(g.function("main", "i"), g.function("f", "ii"))
	u.Vars = []api.Var{{Name: "gi", Size: 4}, {Name: "gl", Size: 8}, {Name: "gd", Size: 8}}
	return u
}

func (g *mixer) function(name, sig string) api.Func {
	f := api.Func{Name: name, Sig: sigOf(sig), Temps: 6, Frame: 8}
	g.kinds = [5]int{}
	for range f.Sig.Params {
		f.Params, g.kinds[0] = []int{-1}, api.Int
	}
	for n := range 5 {
		if g.below(9) > 0 {
			f.Body = append(f.Body, g.set(n))
		}
	}
	f.Body = append(f.Body, g.list(3)...)
	f.Body = append(f.Body, g.leave())
	return f
}

// kind is one of a register.
func (g *mixer) kind() int { return oneOf(&g.grower, api.Int, api.Int, api.Long, api.Double) }

// value is an expression of a kind: a temporary that has it, mostly, or a number.
func (g *mixer) value(kind int) api.Expr {
	for range 4 {
		if n := g.below(5); g.kinds[n] == kind || g.below(90) == 0 {
			return temp(n)
		}
	}
	return g.number(kind)
}

// worked is an expression of a kind that is the result of an operation.
func (g *mixer) worked(kind int) api.Expr {
	switch kind {
	case api.Int:
		return oneOf(&g.grower, op1(api.OpNeg, g.value(api.Int)), opI(api.OpAdd, g.value(api.Int), 1), op1(oneOf(&g.grower, api.OpTruth, api.OpFalse), temp(g.below(5))), op2(api.OpLtD, g.value(api.Double), g.value(api.Double)))
	case api.Long:
		return op2(api.OpAdd+api.OfLong, g.value(api.Long), oneOf(&g.grower, g.value(api.Long), op1(api.OpLongS, g.value(api.Int))))
	}
	return op2(api.OpMulD, g.value(api.Double), g.value(api.Double))
}

func (g *mixer) leave() api.Stmt { return ret(g.worked(api.Int)) }

// variable is a variable of a kind, and its chunk.
func (g *mixer) variable(kind int) (api.Expr, int) {
	return global([]string{"", "gi", "gl", "gd"}[kind]), []int{0, api.C32, api.C64, api.CF64}[kind]
}

// set sets a temporary.
func (g *mixer) set(n int) api.Stmt {
	k := g.kind()
	x := g.value(k)
	switch g.below(5) {
	case 0:
		m := g.below(5)
		x, k = temp(m), g.kinds[m]
	case 1:
		at, chunk := g.variable(k)
		x = load(chunk, at)
	case 2:
		x = g.worked(k)
	case 3:
		x = g.number(k)
	}
	g.kinds[n] = k
	return set(n, x)
}

func (g *mixer) list(depth int) []api.Stmt {
	var list []api.Stmt
	for range 1 + g.below(4) {
		list = append(list, g.statement(depth))
	}
	return list
}

func (g *mixer) statement(depth int) api.Stmt {
	n := g.below(5)
	switch g.below(9) {
	case 0:
		if depth > 0 {
			return api.If{X: temp(n), Then: g.list(depth - 1), Else: g.list(depth - 1)}.Stmt()
		}
	case 1:
		if depth > 0 {
			return api.Loop{After: g.below(2) == 0, Test: oneOf(&g.grower, g.worked(api.Int), temp(n), op1(api.OpFalse, temp(n))), Body: g.list(depth - 1)}.Stmt()
		}
	case 2:
		return invoke(-1, "show", "iv", op1(oneOf(&g.grower, api.OpTruth, api.OpFalse), temp(n)))
	case 3:
		k := g.kind()
		x := g.value(k)
		if g.below(2) == 0 {
			g.kinds[n] = k
		} else {
			n = -1
		}
		return invoke(n, []string{"", "int", "long", "double"}[k], []string{"", "ii", "ll", "dd"}[k], x)
	case 4:
		g.kinds[n] = api.Int
		return invoke(n, "f", "ii", g.worked(api.Int))
	case 5:
		k := g.kind()
		at, chunk := g.variable(k)
		if g.exact {
			return put(chunk, at, g.worked(k))
		}
		return put(chunk, at, g.value(k))
	case 6:
		if g.below(6) == 0 {
			return g.leave()
		}
	}
	return g.set(n)
}

// P14.1, P14.2, P16.1 to P16.3, P17.1 to P17.3: grown units of such temporaries.
func TestGrownMixtures(t *testing.T) {
	var ended [3]int
	for seed := range 2000 {
		g := &mixer{grower: grower{n: uint64(seed)*0x9e3779b97f4a7c15 + 7}, exact: seed%2 == 0}
		u := g.unit()
		what := unitText(u)
		made := graphOf(t, what, u)
		script := []int64{int64(g.below(3)), 1, 0, 7}
		fuels := []int{0, g.below(9), g.below(60), 200}
		compareShorter(t, what, made, script, fuels...)
		if g.exact {
			compareGraphEnds(t, what, u, made, script, 6000, fuels...)
		} else {
			compareGraph(t, what, u, made, script, 6000, fuels...)
		}
		ended[core.Run(u, nil, script, 200).Status]++
		if t.Failed() {
			t.Fatalf("seed %d", seed)
		}
	}
	if slices.Min(ended[:]) < 200 {
		t.Errorf("%v ended so", ended)
	}
}

// P14.1, P14.2: parts that are of other kinds than what asks for them. (The document asks this of operations alone.)
func TestOtherKinds(t *testing.T) {
	one := map[int]api.Expr{api.Int: i32(1), api.Long: i64(1), api.Double: api.Num{V: mach.DoubleOf(1)}.Expr()}
	for _, k := range []int{api.Int, api.Long, api.Double} {
		x := one[k]
		for _, body := range [][]api.Stmt{
			{put(api.C32, global("gi"), x), ret(i32(2))},
			{put(api.C64, global("gi"), x), ret(i32(2))},
			{put(api.CF64, global("gi"), x), ret(i32(2))},
			{put(api.C32, x, i32(1)), ret(i32(2))},
			{ret(load(api.C32, x))},
			{ret(x)},
			{set(0, x), ret(temp(0))},
			{set(0, x), put(api.C32, global("gi"), temp(0)), ret(i32(2))},
			{invoke(0, "int", "ii", x), ret(temp(0))},
			{invoke(-1, "long", "ll", x), ret(i32(2))},
			{invoke(-1, "double", "dd", x), ret(i32(2))},
			{api.Invoke{N: -1, F: x, Sig: sigOf("v")}.Stmt(), ret(i32(2))},
			{put(api.C32, global("gi"), load([]int{0, api.C32, api.C64, api.CF64}[k], frame(0))), ret(i32(2))},
			{put(api.C32, global("gi"), load([]int{0, api.C32, api.C64, api.CF64}[k], frame(8))), ret(i32(2))},
			{api.If{X: x, Then: []api.Stmt{ret(i32(2))}}.Stmt()},
			{api.Loop{Test: op1(api.OpFalse, x), Body: []api.Stmt{ret(i32(3))}}.Stmt(), ret(i32(2))},
			{invoke(-1, "nothing", "v"), ret(i32(2))},
		} {
			u := unitWith(api.Func{Name: "main", Sig: sigOf("i"), Temps: 1, Frame: 8, Body: body}, api.Func{Name: "nothing", Sig: sigOf("v"), Body: []api.Stmt{ret(op1(api.OpTruth, x))}})
			u.Vars = []api.Var{{Name: "gi", Size: 8}}
			what := bodyText(body)
			compareGraph(t, what, u, graphOf(t, what, u), []int64{2}, api.MaxFuel, 0, 1, 2, 3, api.MaxFuel)
		}
	}
}

// P14.2: what a function without a result returns is worked out nevertheless, as it may have no meaning.
func TestReturnsOfNothing(t *testing.T) {
	for want, x := range map[string]api.Expr{"exited 2": i32(1), "wrong": load(api.C32, i64(1))} {
		u := unitWith(api.Func{Name: "main", Sig: sigOf("i"), Body: []api.Stmt{invoke(-1, "f", "v"), ret(i32(2))}}, api.Func{Name: "f", Sig: sigOf("v"), Body: []api.Stmt{ret(x)}})
		g := graphOf(t, want, u)
		compareGraphEnds(t, want, u, g, nil, api.MaxFuel, 0, 1, 2, 3, api.MaxFuel)
		if got := strings.TrimSpace(trace.Text(rtl.Run(g, nil, api.MaxFuel))); got != want {
			t.Errorf("%s, not %s", got, want)
		}
	}
}

// P14.2: what leaves loops, from their bodies and from their steps, and loops without a test.
func TestLoopsOfGraphs(t *testing.T) {
	count, show := set(0, opI(api.OpAdd, temp(0), 1)), invoke(-1, "show", "iv", temp(0))
	at := func(n int32, s api.Stmt) api.Stmt {
		return api.If{X: op2(api.OpEq, temp(0), i32(n)), Then: []api.Stmt{s}}.Stmt()
	}
	leave, again := api.Break{}.Stmt(), api.Continue{}.Stmt()
	below := func(n int32) api.Expr { return op2(api.OpLt, temp(0), i32(n)) }
	for _, r := range []struct {
		want string
		x    api.Loop
	}{
		{"show(1); show(2); exited 3", api.Loop{Body: []api.Stmt{count, at(3, leave), show}}},
		{"show(1); show(2); exited 3", api.Loop{After: true, Body: []api.Stmt{count, at(3, leave), show}}},
		{"exited 0", api.Loop{Test: below(0), Body: []api.Stmt{count}, Step: []api.Stmt{count}}},
		{"exited 2", api.Loop{Test: below(0), After: true, Body: []api.Stmt{count}, Step: []api.Stmt{count}}},
		{"show(1); show(3); exited 4", api.Loop{Test: below(4), Body: []api.Stmt{count, show}, Step: []api.Stmt{count}}},
		{"show(2); show(3); exited 4", api.Loop{Test: below(4), Body: []api.Stmt{at(1, again), at(0, again), show}, Step: []api.Stmt{count}}},
		{"show(1); exited 1", api.Loop{Test: below(4), Body: []api.Stmt{count}, Step: []api.Stmt{show, leave, count}}},
		{"show(1); exited 1", api.Loop{After: true, Body: []api.Stmt{count}, Step: []api.Stmt{show, leave, count}}},
		{"show(1); show(2); show(3); exited 3", api.Loop{Test: below(3), Step: []api.Stmt{count, show, at(1, again)}}},
		{"show(1); show(2); exited 2", api.Loop{Body: []api.Stmt{api.Loop{Test: i32(1), Body: []api.Stmt{leave}, Step: []api.Stmt{show}}.Stmt(), count, show, at(2, leave)}}},
		{"exited 9", api.Loop{Body: []api.Stmt{count, api.Loop{Step: []api.Stmt{at(4, leave), at(9, leave), count, again}}.Stmt(), at(9, leave)}}},
	} {
		u := unitWith(api.Func{Name: "main", Sig: sigOf("i"), Temps: 1, Body: []api.Stmt{set(0, i32(0)), r.x.Stmt(), ret(temp(0))}})
		g := graphOf(t, r.want, u)
		compareGraphEnds(t, r.want, u, g, nil, api.MaxFuel, 0, 1, 2, 3, 5, 8, api.MaxFuel)
		for _, o := range []api.Outcome{core.Run(u, nil, nil, api.MaxFuel), rtl.Run(g, nil, api.MaxFuel)} {
			if got, _, _ := strings.Cut(shown(o), " ["); got != r.want {
				t.Errorf("%s: %s, not %s", stmtText(r.x.Stmt()), got, r.want)
			}
		}
	}
}

// P14.1, P14.2: parameters in any temporaries, also two in one, of which the last counts.
func TestParametersOfGraphs(t *testing.T) {
	main := api.Func{Name: "main", Sig: sigOf("i"), Temps: 1, Body: []api.Stmt{invoke(0, "f", "illi", i32(7), i64(9), i64(4)), ret(temp(0))}}
	for _, r := range []struct {
		params []int
		x      api.Expr
		want   string
	}{
		{[]int{-1, -2, -3}, op2(api.OpAdd, temp(0), op1(api.OpInt, temp(1))), "exited 16"},
		{[]int{-3, -1, -2}, op2(api.OpSub, temp(2), op1(api.OpInt, temp(0))), "exited -2"},
		{[]int{-9, -2, -2}, op2(api.OpSub, temp(8), op1(api.OpInt, temp(1))), "exited 3"},
		{[]int{-1, -2, -1}, op1(api.OpInt, temp(0)), "exited 4"},
		{[]int{-1, -1, -1}, op1(api.OpInt, temp(0)), "exited 4"},
		{[]int{-1, -1, -1}, op1(api.OpTruth, temp(0)), "exited 1"},
		{[]int{-1, -2, -1}, op1(api.OpNeg, temp(0)), "wrong"},
	} {
		f := api.Func{Name: "f", Sig: sigOf("illi"), Params: r.params, Temps: 9, Body: []api.Stmt{ret(r.x)}}
		u := unitWith(main, f)
		g := graphOf(t, "parameters", u)
		compareGraphEnds(t, fmt.Sprint(r.params), u, g, nil, api.MaxFuel, 0, 1, 2, 3, 4, 5, api.MaxFuel)
		if got := strings.TrimSpace(trace.Text(rtl.Run(g, nil, api.MaxFuel))); got != r.want {
			t.Errorf("%v: %s, not %s", r.params, got, r.want)
		}
	}
}

// P14.2: calls may be deeper than Sel's.
func TestDeepGraphs(t *testing.T) {
	u := lightOf(t, "extern void put(int a); int rec(int n) { int x = n; int *p = &x; return n ? *p + rec(n - 1) : 0; } int main() { put(1); return rec(1000); }")
	sel := chosen(t, api.X64, layout.Unit(locals.Unit(u)))
	g := graphOf(t, "deep", sel)
	compareGraph(t, "deep", sel, g, nil, api.MaxFuel, 0, 1, 100, api.MaxFuel)
	if got := trace.Text(rtl.Run(g, nil, api.MaxFuel)); got != "put(1)\nexited 500500\n" {
		t.Error(got)
	}
}

// P14.1: temporaries far from one another, and as many as there may be.
func TestFarTemporaries(t *testing.T) {
	const far = math.MaxInt - 1
	u := unitWith(api.Func{Name: "main", Sig: sigOf("i"), Temps: math.MaxInt, Body: []api.Stmt{set(far, i32(5)), set(3, temp(far)), invoke(1<<40, "int", "ii", temp(3)), ret(op2(api.OpAdd, temp(far), temp(1<<40)))}})
	g := graphOf(t, "far", u)
	compareGraphEnds(t, "far", u, g, []int64{8}, api.MaxFuel, 0, 1, 2, 3, 4, 5, api.MaxFuel)
	if n := len(g.Funcs[0].Kinds); n > 10 {
		t.Errorf("%d registers", n)
	}
	var body []api.Stmt
	for n := range 1 << 16 {
		body = append(body, set(n+1, temp(n)), set(n, opI(api.OpAdd, temp(n), 1)))
	}
	u = unitWith(api.Func{Name: "main", Sig: sigOf("i"), Temps: 1<<16 + 1, Body: append([]api.Stmt{set(0, i32(3))}, append(body, ret(temp(1<<16)))...)})
	if f := graphOf(t, "many", u).Funcs[0]; len(f.Code) != 1<<17+2 {
		t.Errorf("%d instructions", len(f.Code))
	}
}
