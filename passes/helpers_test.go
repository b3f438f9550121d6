// Package passes has the tests that the passes over Light, Minor, Sel and RTL have in common: what they make of programs, and what these do then.
package passes

import (
	"fmt"
	"strconv"
	"strings"
	"testing"

	"alembic/api"
	"alembic/check"
	"alembic/mach"
	"alembic/parse"
	"alembic/simpl"
	"alembic/trace"
)

// lightOf is the Light of a text.
func lightOf(t testing.TB, text string) api.Unit {
	t.Helper()
	trees, place, errno := parse.Parse(text)
	if errno == api.OK {
		var u api.Unit
		if u, place, errno = check.Unit(trees); errno == api.OK {
			return simpl.Unit(u)
		}
	}
	t.Fatalf("%s\nerror %d at %v", text, errno, place)
	return api.Unit{}
}

// shown is an outcome in one line: what it shows, and its steps.
func shown(o api.Outcome) string {
	return strings.ReplaceAll(strings.TrimSpace(trace.Text(o)), "\n", "; ") + fmt.Sprintf(" [%d]", o.Steps)
}

// What bodies are made of, in few letters.

func i32(n int32) api.Expr        { return api.Num{V: mach.IntOf(n)}.Expr() }
func i64(n int64) api.Expr        { return api.Num{V: mach.LongOf(n)}.Expr() }
func local(n int) api.Expr        { return api.Local{N: n}.Expr() }
func temp(n int) api.Expr         { return api.Temp{N: n}.Expr() }
func frame(off int) api.Expr      { return api.Frame{Off: off}.Expr() }
func global(name string) api.Expr { return api.Global{Name: name}.Expr() }

func load(chunk int, at api.Expr) api.Expr { return api.Load{Chunk: chunk, Addr: at}.Expr() }

func op1(op int, x api.Expr) api.Expr { return api.Op1{Op: op, X: x}.Expr() }

func op2(op int, x, y api.Expr) api.Expr { return api.Op2{Op: op, X: x, Y: y}.Expr() }

// behind is an address so many bytes behind another one.
func behind(at api.Expr, off int64) api.Expr { return op2(api.OpAdd+api.OfLong, at, i64(off)) }

func set(n int, x api.Expr) api.Stmt { return api.Set{N: n, X: x}.Stmt() }

func put(chunk int, at, x api.Expr) api.Stmt { return api.Put{Chunk: chunk, Addr: at, X: x}.Stmt() }

func ret(x api.Expr) api.Stmt { return api.Return{X: x}.Stmt() }

func invoke(n int, f string, sig string, args ...api.Expr) api.Stmt {
	return api.Invoke{N: n, F: global(f), Args: args, Sig: sigOf(sig)}.Stmt()
}

// sigOf is a signature: a letter for each parameter's kind and at last for the result's, v for none.
func sigOf(letters string) api.Sig {
	var kinds []int
	for _, c := range letters {
		kinds = append(kinds, strings.IndexRune("vild", c))
	}
	last := len(kinds) - 1
	return api.Sig{Params: kinds[:last:last], Result: kinds[last]}
}

// slotOf is the local of a chunk.
func slotOf(chunk int) api.Slot {
	return api.Slot{Size: mach.Size(chunk), Align: mach.Size(chunk), Chunk: chunk}
}

// unitWith is a unit of functions, with a function from outside for each kind of number, and one without a result.
func unitWith(funcs ...api.Func) api.Unit {
	return api.Unit{Externs: []api.Extern{{Name: "int", Sig: sigOf("ii")}, {Name: "long", Sig: sigOf("ll")}, {Name: "double", Sig: sigOf("dd")}, {Name: "show", Sig: sigOf("iv")}}, Funcs: funcs}
}

// funcText is a function: its name, what its parameters are, its locals' sizes, alignments and chunks, its frame's bytes, if there are any, and its body.
func funcText(f api.Func) string {
	var params, slots []string
	for _, p := range f.Params {
		if p < 0 {
			params = append(params, exprText(temp(-1-p)))
		} else {
			params = append(params, exprText(local(p)))
		}
	}
	for _, s := range f.Locals {
		slots = append(slots, fmt.Sprintf("%d/%d/%s", s.Size, s.Align, chunkText(s.Chunk)))
	}
	text := f.Name + "(" + strings.Join(params, " ") + ") [" + strings.Join(slots, " ") + "] "
	if f.Frame != 0 {
		text += strconv.Itoa(f.Frame) + " "
	}
	return text + bodyText(f.Body)
}

func chunkText(chunk int) string {
	return []string{"-", "c8s", "c8u", "c16s", "c16u", "c32", "c64", "cf64"}[chunk]
}

// exprText is an expression: t and a temporary's number, l and a local's, f and an offset in the frame, @ and a name, # and an operation's number, forms in parentheses.
func exprText(e api.Expr) string {
	switch x := e.View().(type) {
	case nil:
		return "none"
	case api.Num:
		if x.V.Kind == api.Long {
			return "L" + strconv.FormatInt(int64(x.V.Bits), 10)
		}
		return map[int]string{api.Double: "D"}[x.V.Kind] + strconv.FormatInt(int64(int32(x.V.Bits)), 10)
	case api.Temp:
		return "t" + strconv.Itoa(x.N)
	case api.Local:
		return "l" + strconv.Itoa(x.N)
	case api.Frame:
		return "f" + strconv.Itoa(x.Off)
	case api.Global:
		return "@" + x.Name
	case api.Load:
		if x.Off != 0 {
			return fmt.Sprintf("(%s %s %+d)", chunkText(x.Chunk), exprText(x.Addr), x.Off)
		}
		return "(" + chunkText(x.Chunk) + " " + exprText(x.Addr) + ")"
	case api.Op1:
		return "(" + opText(x.Op) + " " + exprText(x.X) + ")"
	case api.Op2:
		return "(" + opText(x.Op) + " " + exprText(x.X) + " " + exprText(x.Y) + ")"
	case api.OpI:
		return fmt.Sprintf("(%s %s #%d)", opText(x.Op), exprText(x.X), x.N)
	}
	return fmt.Sprintf("%+v", e)
}

// opText is an operation's word, of those that the rows speak of, or its number.
func opText(op int) string {
	words := map[int]string{api.OpAdd: "add", api.OpSub: "sub", api.OpMul: "mul", api.OpLt: "lt", api.OpAdd + api.OfLong: "addl", api.OpMul + api.OfLong: "mull", api.OpS8: "s8", api.OpLongS: "longs", api.OpNeg: "neg", api.OpAddD: "addd", api.OpEq: "eq", api.OpSub + api.OfLong: "subl", api.OpShl: "shl", api.OpLtU: "ltu"}
	if w := words[op]; w != "" {
		return w
	}
	return strconv.Itoa(op)
}

// bodyText is statements, with strokes between.
func bodyText(list []api.Stmt) string {
	var parts []string
	for _, s := range list {
		parts = append(parts, stmtText(s))
	}
	return strings.Join(parts, "; ")
}

func stmtText(s api.Stmt) string {
	switch x := s.View().(type) {
	case api.Set:
		return fmt.Sprintf("t%d = %s", x.N, exprText(x.X))
	case api.Put:
		return "put " + exprText(api.Load{Chunk: x.Chunk, Addr: x.Addr, Off: x.Off}.Expr()) + " " + exprText(x.X)
	case api.Invoke:
		text := "invoke"
		if x.N != -1 {
			text = fmt.Sprintf("t%d = invoke", x.N)
		}
		for _, e := range append([]api.Expr{x.F}, x.Args...) {
			text += " " + exprText(e)
		}
		return text
	case api.If:
		return "if " + exprText(x.X) + " {" + bodyText(x.Then) + "} {" + bodyText(x.Else) + "}"
	case api.Loop:
		return map[bool]string{false: "loop ", true: "after "}[x.After] + exprText(x.Test) + " {" + bodyText(x.Body) + "} {" + bodyText(x.Step) + "}"
	case api.Switch:
		return map[bool]string{false: "switch ", true: "switchl "}[x.Long] + exprText(x.X) + " {" + itemsText(x.Items) + "}"
	case api.Break:
		return "break"
	case api.Continue:
		return "continue"
	case api.Goto:
		return "goto " + x.Name
	case api.Label:
		return x.Name + ":"
	case api.Return:
		return "return " + exprText(x.X)
	case api.Block:
		return "{" + bodyText(x.List) + "}"
	}
	return fmt.Sprintf("%+v", s)
}

func itemsText(items []api.Item) string {
	var parts []string
	for _, i := range items {
		switch {
		case i.Case:
			parts = append(parts, fmt.Sprintf("case %d", i.Value))
		case i.Default:
			parts = append(parts, "default")
		default:
			parts = append(parts, stmtText(i.S))
		}
	}
	return strings.Join(parts, "; ")
}
