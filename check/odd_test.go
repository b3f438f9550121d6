package check_test

import (
	"reflect"
	"slices"
	"strconv"
	"strings"
	"testing"
	"time"

	"alembic/api"
	"alembic/check"
)

// sample is a text with all that a unit may hold.
const sample = prelude + `int x[2] = {1, -2}; char *y = "a"; void *z = &x; char t[3] = "b"; struct r rr = {1, 2, 3.5, {4}, &rr, fi};
void f(int a, char *b, void (*h)(int, char)) { int n = a; char *q = "c"; for (int j = 0; j < 3; j++) { h(j, *b); if (j) continue; else break; }
 do n += x[a]; while (n); switch (n) { case 1: goto end; case -1: default: n--; } end: n ? ev() : fv(); q = a && n || !b ? 0 : (char*) gp->t; rr.fn(sizeof "d"); return; }
int main() { f(1, "e", 0); return -x[0], (int) d; }
`

// P7.1: nothing that is handed in is changed, nor its spare room, and what is answered shares no memory with it.
func TestArgumentsStay(t *testing.T) {
	roomy := func() []api.Tree {
		list := trees(t, sample)
		return append(slices.Clip(list), api.TName{Name: "spare"}.Tree(), api.TName{Name: "room"}.Tree())[:len(list)]
	}
	given := roomy()
	want := unitText(checked(t, sample))
	u, _, _ := check.Unit(given)
	if !reflect.DeepEqual(given[:cap(given)][:len(given)+2], roomy()[:len(given)+2]) {
		t.Error("the trees were changed")
	}
	for _, a := range spansOf(reflect.ValueOf(u), "unit", nil) {
		for _, b := range spansOf(reflect.ValueOf(given), "trees", nil) {
			if a.from < b.to && b.from < a.to {
				t.Fatalf("%s and %s share memory", a.what, b.what)
			}
		}
	}
	again, _, _ := check.Unit(given)
	if unitText(u) != want || unitText(again) != want {
		t.Errorf("%s\nand\n%s\nnot\n%s", unitText(u), unitText(again), want)
	}
}

// P7.2: a unit with all that there may be is right, and its lists are apart (checked asks for both).
func TestSampleIsRight(t *testing.T) {
	u := checked(t, sample)
	if len(u.Funcs) != 6 || len(u.Externs) != 5 {
		t.Errorf("%d functions, %d from outside", len(u.Funcs), len(u.Externs))
	}
}

// The judge of right Core finds what isn't right.
func TestJudge(t *testing.T) {
	num := api.Num{V: api.Value{Kind: api.Int, Bits: 1}}.Expr()
	long := api.Num{V: api.Value{Kind: api.Long}}.Expr()
	local := api.Local{}.Expr()
	do := func(e api.Expr) api.Stmt { return api.Do{X: e}.Stmt() }
	for i, s := range []api.Stmt{
		do(api.Op1{Op: api.OpNeg, X: long}.Expr()), do(api.Op1{Op: api.OpAdd, X: num}.Expr()), do(api.Op2{Op: api.OpAdd, X: num, Y: long}.Expr()), do(api.Op2{Op: api.OpShl + api.OfLong, X: long, Y: long}.Expr()), do(api.Op2{X: num, Y: num}.Expr()),
		do(api.Load{Chunk: api.C32, Addr: num}.Expr()), do(api.Load{Addr: local}.Expr()), do(api.Load{Chunk: api.C32, Addr: local, Off: 1}.Expr()), do(api.Assign{Chunk: api.C64, Addr: local, X: num}.Expr()), do(api.Assign{Addr: local, X: num}.Expr()),
		do(api.Modify{Chunk: api.C32, Addr: local, Y: num, New: long}.Expr()), do(api.Old{}.Expr()), do(api.Arg{}.Expr()), do(api.Local{N: 2}.Expr()), do(api.Global{Name: "nix"}.Expr()), do(api.Temp{}.Expr()), do(api.Frame{}.Expr()), do(api.OpI{Op: api.OpAdd, X: num}.Expr()), do(api.Expr{}),
		do(api.Call{F: num}.Expr()), do(api.Call{F: local, Args: []api.Expr{num}}.Expr()), do(api.Call{F: local, Args: []api.Expr{num}, Sig: api.Sig{Params: []int{api.Long}}}.Expr()), do(api.Num{}.Expr()),
		api.Set{X: num}.Stmt(), api.Put{}.Stmt(), api.Invoke{}.Stmt(), api.Break{}.Stmt(), api.Continue{}.Stmt(), api.Goto{Name: "x"}.Stmt(), api.Return{X: long}.Stmt(), api.Return{}.Stmt(), {}, api.If{}.Stmt(), api.Switch{X: num, Long: true}.Stmt(), api.Switch{X: num, Items: []api.Item{{}}}.Stmt(), api.Switch{X: num, Items: []api.Item{{Default: true}, {Default: true}}}.Stmt(),
		api.Loop{Step: []api.Stmt{api.Break{}.Stmt()}}.Stmt(),
	} {
		f := api.Func{Name: "f", Sig: api.Sig{Result: api.Int}, Locals: []api.Slot{{Size: 4, Align: 4, Chunk: api.C32}}, Body: []api.Stmt{s}}
		if len(faultsOf(api.Unit{Funcs: []api.Func{f}})) == 0 {
			t.Errorf("%d: %s is right", i, stmtText(s))
		}
	}
	shared := []int{api.Int}
	if sharing(api.Unit{Externs: []api.Extern{{Sig: api.Sig{Params: shared}}, {Sig: api.Sig{Params: shared}}}}) == "" {
		t.Error("what shares memory isn't found")
	}
}

// Trees that no text has end with an answer, too.
func TestOddTrees(t *testing.T) {
	list := trees(t, sample)
	n := 0
	for i := range list {
		spoilEach(&list[i], func() {
			n++
			u, _, errno := check.Unit(list)
			if errno == api.OK != (len(u.Funcs) > 0) {
				t.Fatalf("error %d, %d functions", errno, len(u.Funcs))
			}
		})
	}
	if n < 1000 {
		t.Errorf("%d spoilt trees", n)
	}
	for kind := range api.KTFunc + 3 {
		for _, x := range []api.Tree{{Kind: kind}, {Kind: kind, Kids: make([]api.Tree, 5)}, {Kind: kind, Name: "x", Op: "+", Type: api.Type{Kind: api.KFunction, Kids: make([]api.Type, 3)}, Kids: []api.Tree{{Kind: api.KTNum}}}} {
			check.Unit([]api.Tree{x})
			check.Unit([]api.Tree{x, x})
			check.Unit([]api.Tree{api.TFunc{Name: "f", Type: api.Function{Result: api.Void{}.Type()}, Body: api.TBlock{List: []api.Tree{x}}.Tree()}.Tree()})
			check.Unit([]api.Tree{api.TVar{Name: "x", Type: api.Number{Size: 4}.Type(), Init: x}.Tree()})
			check.Constant(x)
		}
	}
}

// spoilEach calls a function with each part of a tree left out, or made another one, one at a time.
func spoilEach(t *api.Tree, call func()) {
	was := *t
	for _, x := range []api.Tree{{}, {Kind: was.Kind}, {Kind: 99, Kids: was.Kids}, api.TNum{Bits: 1}.Tree(), api.TBlock{}.Tree(), api.TList{}.Tree(), api.TReturn{}.Tree()} {
		*t = x
		call()
	}
	for kind := range api.KTFunc {
		*t = was
		t.Kind = kind
		if kind%5 == was.Kind%5 {
			call()
		}
	}
	*t = was
	for i := range t.Kids {
		spoilEach(&t.Kids[i], call)
	}
}

// Parts nested in one another as deep as the document promises anything of.
func TestDeepTrees(t *testing.T) {
	name := api.TName{Name: "x"}.Tree()
	for _, wrap := range []func(x api.Tree) api.Tree{
		func(x api.Tree) api.Tree { return api.TUnary{Op: "-", X: x}.Tree() },
		func(x api.Tree) api.Tree { return api.TBinary{Op: "+", X: x, Y: name}.Tree() },
		func(x api.Tree) api.Tree { return api.TBinary{Op: ",", X: name, Y: x}.Tree() },
		func(x api.Tree) api.Tree { return api.TAssign{Op: "+=", X: name, Y: x}.Tree() },
		func(x api.Tree) api.Tree { return api.TCond{X: name, Y: name, Z: x}.Tree() },
		func(x api.Tree) api.Tree { return api.TSizeOf{X: x}.Tree() },
	} {
		x := name
		for range 1<<16 - 100 {
			x = wrap(x)
		}
		f := api.TFunc{Name: "f", Type: api.Function{Result: api.Void{}.Type()}, Body: api.TBlock{List: []api.Tree{api.TExpr{X: x}.Tree()}}.Tree()}
		_, _, errno := check.Unit([]api.Tree{api.TVar{Name: "x", Type: api.Number{Size: 4}.Type()}.Tree(), f.Tree()})
		if errno != api.OK {
			t.Errorf("error %d", errno)
		}
	}
}

// Texts as long as may be end soon.
func TestLongTexts(t *testing.T) {
	repeat := func(ahead, one, behind string) string {
		return ahead + strings.Repeat(one, (api.MaxText-len(ahead)-len(behind))/len(one)) + behind
	}
	numbered := func(ahead, one, behind string) string {
		var b strings.Builder
		b.WriteString(ahead)
		for n := 0; b.Len() < api.MaxText-len(behind)-len(one)-20; n++ {
			b.WriteString(strings.NewReplacer("%", letters(n), "#", strconv.Itoa(n)).Replace(one))
		}
		return b.String() + behind
	}
	for _, text := range []string{
		repeat("char *x = \"", "a", "\";"), repeat("int f() { int i; ", "i;", "return 0; }"), repeat("int f() { ", "{}", "return 0; }"), repeat("void f() { \"", "a", "\"; }"), repeat("char x[1048576] = {0", ",0", "};"), repeat("void f() { ", "\"\";", "}"),
		numbered("", "int %;", ""), numbered("", "void %(){}", ""), numbered("", "extern void %();", ""), numbered("", "struct %{int a;};", ""), numbered("struct a{int a;};", "struct %_{struct a a;};", ""), numbered("void f() {", "int %;", "}"), numbered("void f() {", "%:", "}"), numbered("struct s {", "int %;", "};"),
		numbered("int f(int x) { switch (x) {", "case #:", "} return 0; }"),
	} {
		list := trees(t, text)
		began := time.Now()
		if _, place, errno := check.Unit(list); errno != api.OK {
			t.Errorf("%.40s..: error %d at %v", text, errno, place)
		}
		if took := time.Since(began); took > 20*time.Second {
			t.Errorf("%.40s.. took %v", text, took)
		}
	}
}

// letters are a number as a name.
func letters(n int) string {
	s := "n"
	for ; n > 0; n /= 26 {
		s += string(rune('a' + n%26))
	}
	return s + "_"
}
