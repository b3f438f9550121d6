package passes

import (
	"fmt"
	"reflect"
	"testing"

	"alembic/api"
	"alembic/core"
	"alembic/fold"
	"alembic/graph"
	"alembic/layout"
	"alembic/locals"
	"alembic/rtl"
	"alembic/same"
)

// shorterOf is what fold, or same, makes of a program of RTL, which must be what the document says (P16.1, P16.3, P17.1, P17.3).
func shorterOf(t testing.TB, what string, pass func(g api.Graphs) api.Graphs, g api.Graphs) api.Graphs {
	t.Helper()
	made := pass(g)
	if !rtl.Right(made) {
		t.Errorf("%s\nit isn't right: %+v", what, made)
	}
	if sharing(g, made) {
		t.Errorf("%s\nmemory is shared", what)
	}
	if !reflect.DeepEqual(pass(g), made) {
		t.Errorf("%s\nis something else the second time", what)
	}
	if !reflect.DeepEqual(made.Vars, g.Vars) || !reflect.DeepEqual(made.Externs, g.Externs) || len(made.Funcs) != len(g.Funcs) {
		t.Fatalf("%s\nis of other parts: %+v", what, made)
	}
	for i, f := range g.Funcs {
		if got := made.Funcs[i]; got.Name != f.Name || got.Frame != f.Frame || !reflect.DeepEqual(got.Sig, f.Sig) || !reflect.DeepEqual(got.Params, f.Params) {
			t.Errorf("%s\n%s, of %d bytes, %+v, %v", what, got.Name, got.Frame, got.Sig, got.Params)
		}
	}
	return made
}

// compareShorter asks whether what fold and same make of a program does the same, step by step, whatever the fuel (P16.2, P17.2).
func compareShorter(t testing.TB, what string, g api.Graphs, script []int64, fuels ...int) {
	t.Helper()
	folded, once := shorterOf(t, what, fold.Unit, g), shorterOf(t, what, same.Unit, g)
	for i, made := range []api.Graphs{folded, once, shorterOf(t, what, same.Unit, folded), shorterOf(t, what, fold.Unit, once)} {
		for _, fuel := range fuels {
			if a, b := rtl.Run(g, script, fuel), rtl.Run(made, script, fuel); !sameOutcome(a, b) {
				t.Errorf("%s\n%d, fuel %d: %s, not %s", what, i, fuel, shown(b), shown(a))
			}
		}
	}
}

// rtlOf is the RTL of a text.
func rtlOf(t testing.TB, text string) api.Graphs {
	t.Helper()
	return graph.Unit(chosen(t, api.RV64, layout.Unit(locals.Unit(lightOf(t, text)))))
}

// returned is the number of the instruction that set what the one way through a function returns; -1, if there are more ways, or if it does more than set registers to numbers.
func returned(f api.Graph) int {
	set := map[int]int{}
	for n, steps := f.Entry, 0; steps <= len(f.Code); steps++ {
		switch i := f.Code[n]; {
		case i.Kind == api.IReturn && len(i.Args) == 1:
			if at, ok := set[i.Args[0]]; ok {
				return at
			}
			return -1
		case i.Kind == api.IOp && i.Op == api.OpNum:
			set[i.Dst] = n
		case i.Kind != api.INop:
			return -1
		}
		n = f.Code[n].Next
	}
	return -1
}

// wantNumber asks of a function f of a type that returns an expression of numbers whether it returns an OpNum's register, if the expression has a meaning; whether it has (P16.4).
func wantNumber(t testing.TB, of, expr string) bool {
	t.Helper()
	show := map[string]string{"double": "double", "long": "long", "unsigned long": "long"}[of]
	if show == "" {
		show = "int"
	}
	text := fmt.Sprintf("extern void show(%s a); %s f() { return %s; } int main() { show(f()); return 0; }", show, of, expr)
	o := core.Run(lightOf(t, text), nil, nil, api.MaxFuel)
	made := fold.Unit(rtlOf(t, text)).Funcs[0]
	if o.Status != api.Exited {
		return false
	}
	if n := returned(made); n < 0 || made.Code[n].V != o.Trace[0].Args[0] {
		t.Errorf("%s %s, which is %v:\n%s", of, expr, o.Trace[0].Args[0], codeText(made))
	}
	return true
}

// P16.4: the document's example, and expressions of numbers with all that may be in them.
func TestReturnsOfNumbers(t *testing.T) {
	for _, r := range []struct {
		of, expr string
		meaning  bool
	}{
		{"int", "2 * 3 + 4", true}, {"int", "7", true}, {"int", "-7", true}, {"int", "'a' + 1", true}, {"int", "sizeof (int) * 8", true}, {"char", "300", true}, {"unsigned char", "300", true}, {"short", "1 << 20 | 70000", true},
		{"long", "1l << 40", true}, {"unsigned long", "-1", true}, {"long", "2147483647 + 1", true}, {"long", "2147483648 + 1", true}, {"double", "1", true}, {"double", "0.5 * 3 - 1", true}, {"int", "0.5 * 3", true}, {"int", "7.9 / 0.5 > 15", true},
		{"int", "1 ? 2 : 3", true}, {"int", "0 ? 2 : 3", true}, {"int", "(1 ? 2 : 3) + 4", true}, {"int", "(0.0 ? 2 : 3) * (1 ? 5 : 6) - (2 > 1 ? 1 : 0)", true}, {"int", "(2 < 3 ? 4 : 5) ? 6 : 7", true}, {"double", "1 ? 2 : 3.5", true}, {"int", "((1 ? 0 : 2) ? 3 : 4) ? 5 : 6", true},
		{"int", "1 && 2", true}, {"int", "0 && 1 / 0", true}, {"int", "1 || 1 / 0", true}, {"int", "0.0 || 0", true}, {"int", "(1 && 0) + (0 || 5) * 2", true}, {"int", "!(3 && 0.5)", true}, {"int", "!0.0", true}, {"int", "1 ? 2 : 1 / 0", true},
		{"int", "(1, 2) + (3, 4)", true}, {"int", "(char) 200 + (unsigned char) 200", true}, {"int", "(int) 2.9 + (long) 3.9", true}, {"double", "(double) (unsigned) -1", true},
		{"int", "1 / 0", false}, {"int", "1 << 32", false}, {"int", "(int) 3000000000.0", false}, {"int", "-2147483647 - 1 % (1 - 1)", false}, {"int", "1 && 1 / 0", false}, {"int", "1 ? 1 / 0 : 2", false},
	} {
		if got := wantNumber(t, r.of, r.expr); got != r.meaning {
			t.Errorf("%s %s: a meaning: %v", r.of, r.expr, got)
		}
	}
}

// counter makes expressions of numbers alone.
type counter struct{ grower }

// whole is one without a fraction.
func (g *counter) whole(depth int) string {
	if depth == 0 {
		return oneOf(&g.grower, "0", "1", "2", "3", "7", "'c'", "5u", "6l", "9ul", "2147483647", "1000000", "255", "sizeof (long)")
	}
	x, y := g.whole(depth-1), g.whole(g.below(depth))
	switch g.below(10) {
	case 0:
		return oneOf(&g.grower, "(-", "(~", "(!") + x + ")"
	case 1:
		return "(!" + g.any(depth-1) + ")"
	case 2:
		return oneOf(&g.grower, "((int) ", "((char) ", "((unsigned char) ", "((short) ", "((unsigned short) ", "((unsigned) ", "((long) ", "((unsigned long) ") + g.any(depth-1) + ")"
	case 3:
		return "(" + g.any(depth-1) + oneOf(&g.grower, " < ", " > ", " <= ", " >= ", " == ", " != ", " && ", " || ") + g.any(g.below(depth)) + ")"
	case 4, 5:
		return "(" + g.any(depth-1) + " ? " + x + " : " + y + ")"
	case 6:
		return "(" + g.any(depth-1) + ", " + x + ")"
	case 7:
		return "(" + x + oneOf(&g.grower, " << ", " >> ") + fmt.Sprint(g.below(20)) + ")"
	}
	return "(" + x + oneOf(&g.grower, " + ", " - ", " * ", " / ", " % ", " & ", " | ", " ^ ", " << ") + y + ")"
}

// any is one that may have a fraction.
func (g *counter) any(depth int) string {
	if g.below(3) > 0 {
		return g.whole(depth)
	}
	if depth == 0 {
		return oneOf(&g.grower, "0.0", "0.5", "1.0", "2.75", "100000.0", "4294967296.0")
	}
	x, y := g.any(depth-1), g.any(g.below(depth))
	switch g.below(5) {
	case 0:
		return "(-" + x + ")"
	case 1:
		return "((double) " + x + ")"
	case 2:
		return "(" + g.any(depth-1) + " ? " + x + " : " + y + ")"
	}
	return "(" + x + oneOf(&g.grower, " + ", " - ", " * ", " / ") + y + ")"
}

// P16.4: grown expressions of numbers.
func TestReturnsOfGrownNumbers(t *testing.T) {
	meant := 0
	for seed := range 3000 {
		g := &counter{grower{n: uint64(seed)*0x9e3779b97f4a7c15 + 3}}
		if wantNumber(t, oneOf(&g.grower, "int", "long", "unsigned", "unsigned char", "double", "unsigned long", "short"), g.any(2+g.below(5))) {
			meant++
		}
		if t.Failed() {
			t.Fatalf("seed %d", seed)
		}
	}
	if meant < 1500 || meant > 2900 {
		t.Errorf("%d have a meaning", meant)
	}
}

// P17.2: the document's example.
func TestTwiceTheSame(t *testing.T) {
	made := same.Unit(rtlOf(t, "int f(int a, int b) { return (a + b) * (a + b); } int main() { return f(1, 2); }")).Funcs[0]
	var ops []int
	for _, i := range made.Code {
		ops = append(ops, i.Op)
	}
	if !reflect.DeepEqual(ops, []int{api.OpAdd, api.OpMove, api.OpMul, 0}) {
		t.Error(codeText(made))
	}
}
