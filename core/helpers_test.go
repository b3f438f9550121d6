package core_test

import (
	"fmt"
	"reflect"
	"strings"
	"testing"

	"alembic/api"
	"alembic/check"
	"alembic/core"
	"alembic/mach"
	"alembic/parse"
	"alembic/trace"
)

// unitOf is the Core of a text.
func unitOf(t testing.TB, text string) api.Unit {
	t.Helper()
	trees, place, errno := parse.Parse(text)
	if errno == api.OK {
		var u api.Unit
		if u, place, errno = check.Unit(trees); errno == api.OK {
			return u
		}
	}
	t.Fatalf("%s\nerror %d at %v", text, errno, place)
	return api.Unit{}
}

// shown is an outcome in one line: what it shows, and its steps.
func shown(o api.Outcome) string {
	return strings.ReplaceAll(strings.TrimSpace(trace.Text(o)), "\n", "; ") + fmt.Sprintf(" [%d]", o.Steps)
}

// row is a program, and what is shown by its run with MaxFuel: the events and the end with strokes between; the steps behind it, where they are told.
type row struct {
	text   string
	picks  []int
	script []int64
	want   string
}

func (r row) check(t *testing.T) {
	t.Helper()
	got := shown(core.Run(unitOf(t, r.text), r.picks, r.script, api.MaxFuel))
	if !strings.HasSuffix(r.want, "]") {
		got, _, _ = strings.Cut(got, " [")
	}
	if got != r.want {
		t.Errorf("%s\n%v %v: %s, not %s", r.text, r.picks, r.script, got, r.want)
	}
}

// wantAll asks for rows.
func wantAll(t *testing.T, rows []row) {
	t.Helper()
	for _, r := range rows {
		r.check(t)
	}
}

// wantMain asks for what bodies of main come to, in texts that begin alike.
func wantMain(t *testing.T, ahead string, rows [][2]string) {
	t.Helper()
	for _, r := range rows {
		row{text: ahead + " int main() { " + r[0] + " }", want: r[1]}.check(t)
	}
}

// What bodies are made of, in few letters.

func i32(n int32) api.Expr            { return api.Num{V: mach.IntOf(n)}.Expr() }
func i64(n int64) api.Expr            { return api.Num{V: mach.LongOf(n)}.Expr() }
func temp(n int) api.Expr             { return api.Temp{N: n}.Expr() }
func local(n int) api.Expr            { return api.Local{N: n}.Expr() }
func global(name string) api.Expr     { return api.Global{Name: name}.Expr() }
func frame(off int) api.Expr          { return api.Frame{Off: off}.Expr() }
func op1(op int, x api.Expr) api.Expr { return api.Op1{Op: op, X: x}.Expr() }

func load(chunk int, at api.Expr, off int) api.Expr {
	return api.Load{Chunk: chunk, Addr: at, Off: off}.Expr()
}

func op2(op int, x, y api.Expr) api.Expr { return api.Op2{Op: op, X: x, Y: y}.Expr() }

func opI(op int, x api.Expr, n int64) api.Expr { return api.OpI{Op: op, X: x, N: n}.Expr() }

func assign(chunk int, at, x api.Expr) api.Expr {
	return api.Assign{Chunk: chunk, Addr: at, X: x}.Expr()
}

func calls(f string, sig api.Sig, args ...api.Expr) api.Expr {
	return api.Call{F: global(f), Args: args, Sig: sig}.Expr()
}

func do(x api.Expr) api.Stmt         { return api.Do{X: x}.Stmt() }
func set(n int, x api.Expr) api.Stmt { return api.Set{N: n, X: x}.Stmt() }
func ret(x api.Expr) api.Stmt        { return api.Return{X: x}.Stmt() }

func put(chunk int, at api.Expr, off int, x api.Expr) api.Stmt {
	return api.Put{Chunk: chunk, Addr: at, Off: off, X: x}.Stmt()
}

func invoke(n int, f string, sig api.Sig, args ...api.Expr) api.Stmt {
	return api.Invoke{N: n, F: global(f), Args: args, Sig: sig}.Stmt()
}

// sigOf is a signature: a letter for each parameter's kind and at last for the result's, v for none.
func sigOf(letters string) api.Sig {
	var kinds []int
	for _, c := range letters {
		kinds = append(kinds, strings.IndexRune("vild", c))
	}
	last := len(kinds) - 1
	return api.Sig{Params: kinds[:last:last], Result: kinds[last]}
}

// mainOf is a function main of a body.
func mainOf(body ...api.Stmt) api.Func {
	return api.Func{Name: "main", Sig: sigOf("i"), Body: body}
}

// unitWith is a unit of functions, with a function from outside for each kind of number, and one without a result.
func unitWith(funcs ...api.Func) api.Unit {
	return api.Unit{Externs: outsiders(), Funcs: funcs}
}

func outsiders() []api.Extern {
	return []api.Extern{{Name: "int", Sig: sigOf("ii")}, {Name: "long", Sig: sigOf("ll")}, {Name: "double", Sig: sigOf("dd")}, {Name: "show", Sig: sigOf("iv")}}
}

// wantRun asks for what a run of a unit shows.
func wantRun(t *testing.T, what string, u api.Unit, want string, script ...int64) {
	t.Helper()
	if got := shown(core.Run(u, nil, script, api.MaxFuel)); got != want {
		t.Errorf("%s: %s, not %s", what, got, want)
	}
}

// sameOutcome tells whether two outcomes are the same in all.
func sameOutcome(a, b api.Outcome) bool {
	return trace.Same(a, b) && a.Steps == b.Steps && (len(a.Trace) == 0 || reflect.DeepEqual(a.Trace, b.Trace))
}
