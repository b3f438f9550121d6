package check_test

import (
	"fmt"
	"math"
	"reflect"
	"strconv"
	"strings"
	"testing"

	"alembic/api"
	"alembic/check"
	"alembic/parse"
)

// opName is how an operation is written: its word, with l behind it of Long, and d of Double.
func opName(op int) string {
	whole := []string{"neg", "not", "add", "sub", "mul", "div", "divu", "mod", "modu", "and", "or", "xor", "shl", "shr", "shru", "eq", "ne", "lt", "le", "gt", "ge", "ltu", "leu", "gtu", "geu"}
	double := []string{"negd", "addd", "subd", "muld", "divd", "eqd", "ned", "ltd", "led", "gtd", "ged"}
	turn := []string{"s8", "u8", "s16", "u16", "longs", "longu", "int", "dbls", "dblu", "dbll", "dblul", "intd", "uintd", "longd", "ulongd", "truth", "false"}
	switch {
	case op >= 1 && op <= 25:
		return whole[op-1]
	case op >= 31 && op <= 55:
		return whole[op-31] + "l"
	case op >= 61 && op <= 71:
		return double[op-61]
	case op >= 80 && op <= 96:
		return turn[op-80]
	}
	return "op" + strconv.Itoa(op)
}

func chunkName(chunk int) string {
	names := []string{"none", "c8s", "c8u", "c16s", "c16u", "c32", "c64", "cf64"}
	if chunk >= 0 && chunk < len(names) {
		return names[chunk]
	}
	return "chunk" + strconv.Itoa(chunk)
}

// valueText is a value: an Int, a Long with an L, a Double with a D.
func valueText(v api.Value) string {
	switch v.Kind {
	case api.Int:
		return strconv.FormatInt(int64(int32(v.Bits)), 10)
	case api.Long:
		return strconv.FormatInt(int64(v.Bits), 10) + "L"
	case api.Double:
		return strconv.FormatFloat(math.Float64frombits(v.Bits), 'g', -1, 64) + "D"
	}
	return fmt.Sprintf("%+v", v)
}

func kindText(kind int) string {
	return []string{"none", "int", "long", "double", "ptr"}[kind]
}

func sigText(s api.Sig) string {
	var kinds []string
	for _, k := range s.Params {
		kinds = append(kinds, kindText(k))
	}
	return kindText(s.Result) + "(" + strings.Join(kinds, ",") + ")"
}

// exprText is an expression of Core: a word and its parts.
func exprText(e api.Expr) string {
	switch x := e.View().(type) {
	case nil:
		return "_"
	case api.Num:
		return valueText(x.V)
	case api.Local:
		return "$" + strconv.Itoa(x.N)
	case api.Global:
		return "@" + x.Name
	case api.Load:
		return node("load", chunkName(x.Chunk), x.Addr)
	case api.Op1:
		return node(opName(x.Op), x.X)
	case api.Op2:
		return node(opName(x.Op), x.X, x.Y)
	case api.Assign:
		return node("assign", chunkName(x.Chunk), x.Addr, x.X)
	case api.Modify:
		return node(map[bool]string{false: "modify", true: "back"}[x.Back], chunkName(x.Chunk), x.Addr, x.Y, x.New)
	case api.Old:
		return "old"
	case api.Arg:
		return "arg"
	case api.Cond:
		return node("?", x.X, x.Y, x.Z)
	case api.And:
		return node("&&", x.X, x.Y)
	case api.Or:
		return node("||", x.X, x.Y)
	case api.Comma:
		return node(",", x.X, x.Y)
	case api.Call:
		return node("call", sigText(x.Sig), x.F, x.Args)
	}
	return fmt.Sprintf("%+v", e)
}

// node is a word and parts, in parentheses.
func node(word string, parts ...any) string {
	s := "(" + word
	for _, p := range parts {
		switch x := p.(type) {
		case api.Expr:
			s += " " + exprText(x)
		case []api.Expr:
			for _, k := range x {
				s += " " + exprText(k)
			}
		case []api.Stmt:
			s += " {" + stmtsText(x) + "}"
		default:
			s += fmt.Sprint(" ", x)
		}
	}
	return s + ")"
}

// stmtsText is statements of Core, with blanks between.
func stmtsText(list []api.Stmt) string {
	var parts []string
	for _, s := range list {
		parts = append(parts, stmtText(s))
	}
	return strings.Join(parts, " ")
}

func stmtText(s api.Stmt) string {
	switch x := s.View().(type) {
	case api.Do:
		return node("do", x.X)
	case api.If:
		return node("if", x.X, x.Then, x.Else)
	case api.Loop:
		return node(map[bool]string{false: "loop", true: "after"}[x.After], x.Test, x.Body, x.Step)
	case api.Switch:
		parts := []any{x.X}
		for _, i := range x.Items {
			parts = append(parts, itemText(i))
		}
		return node(map[bool]string{false: "switch", true: "switchl"}[x.Long], parts...)
	case api.Break:
		return "(break)"
	case api.Continue:
		return "(continue)"
	case api.Goto:
		return node("goto", x.Name)
	case api.Label:
		return node("label", x.Name)
	case api.Return:
		return node("return", x.X)
	case api.Block:
		return node("block", x.List)
	}
	return fmt.Sprintf("%+v", s)
}

func itemText(i api.Item) string {
	plain := i.S.None() && (i.Case || i.Value == 0)
	switch {
	case plain && i.Case && !i.Default:
		return "case:" + strconv.FormatUint(i.Value, 16)
	case plain && i.Default && !i.Case:
		return "default:"
	case !i.Case && !i.Default && i.Value == 0:
		return stmtText(i.S)
	}
	return fmt.Sprintf("%+v", i)
}

// varText is a variable: its name, size and alignment, ! if it is read only, and its data.
func varText(v api.Var) string {
	s := fmt.Sprintf("%s:%d/%d", v.Name, v.Size, v.Align)
	if v.Fixed {
		s += "!"
	}
	for _, d := range v.Init {
		what := valueText(d.V)
		if d.V == (api.Value{}) && d.Off == 0 {
			what = "@" + d.Sym
		} else if d.Sym != "" || d.Off != 0 {
			what = fmt.Sprintf("%+v", d)
		}
		s += fmt.Sprintf(" %d:%s:%s", d.At, chunkName(d.Chunk), what)
	}
	return s
}

func funcText(f api.Func) string {
	s := f.Name + " " + sigText(f.Sig)
	for i, l := range f.Locals {
		s += fmt.Sprintf(" %d/%d/%s", l.Size, l.Align, chunkName(l.Chunk))
		if i < len(f.Params) && f.Params[i] == i {
			s += "=p"
		}
	}
	if len(f.Params) > len(f.Locals) || f.Temps != 0 || f.Frame != 0 {
		s += fmt.Sprintf(" %+v", f)
	}
	return s + " {" + stmtsText(f.Body) + "}"
}

// unitText is a unit, a line for each of its parts.
func unitText(u api.Unit) string {
	var lines []string
	for _, v := range u.Vars {
		lines = append(lines, "var "+varText(v))
	}
	for _, e := range u.Externs {
		lines = append(lines, "extern "+e.Name+" "+sigText(e.Sig))
	}
	for _, f := range u.Funcs {
		lines = append(lines, "func "+funcText(f))
	}
	return strings.Join(lines, "\n")
}

// tail is how a text ends.
func tail(text string) string { return text[max(0, len(text)-300):] }

// trees are those of a text.
func trees(t *testing.T, text string) []api.Tree {
	t.Helper()
	list, place, errno := parse.Parse(text)
	if errno != api.OK {
		t.Fatalf("%s is no text of the language: error %d at %v", tail(text), errno, place)
	}
	return list
}

// checked is the unit of a text that is taken.
func checked(t *testing.T, text string) api.Unit {
	t.Helper()
	u, place, errno := check.Unit(trees(t, text))
	if errno != api.OK || place != (api.Place{}) {
		t.Fatalf("%s: error %d at %v", tail(text), errno, place)
	}
	checkRight(t, text, u)
	return u
}

// wantUnit asks for a text's unit.
func wantUnit(t *testing.T, text, want string) {
	t.Helper()
	if got := unitText(checked(t, text)); got != want {
		t.Errorf("%s\nis\n%s\nnot\n%s", text, got, want)
	}
}

// wantVars asks for a text's variables.
func wantVars(t *testing.T, text string, want ...string) {
	t.Helper()
	var got []string
	for _, v := range checked(t, text).Vars {
		got = append(got, varText(v))
	}
	if strings.Join(got, "\n") != strings.Join(want, "\n") {
		t.Errorf("%s\nis\n%s\nnot\n%s", text, strings.Join(got, "\n"), strings.Join(want, "\n"))
	}
}

// place is where the stroke ¦ stands in a text, and the text without it.
func place(t *testing.T, marked string) (string, api.Place) {
	t.Helper()
	ahead, behind, found := strings.Cut(marked, "¦")
	if !found || strings.Contains(behind, "¦") {
		t.Fatalf("%s hasn't one stroke", tail(marked))
	}
	line := 1 + strings.Count(ahead, "\n")
	col := 1 + len([]rune(ahead[strings.LastIndexByte(ahead, '\n')+1:]))
	return ahead + behind, api.Place{Line: line, Col: col}
}

// wantError asks for an error where the stroke ¦ stands in a text, which is left out, and for nothing beside.
func wantError(t *testing.T, errno api.Errno, marked string) {
	t.Helper()
	text, at := place(t, marked)
	u, p, e := check.Unit(trees(t, text))
	if !reflect.ValueOf(u).IsZero() || p != at || e != errno {
		t.Errorf("%s\nerror %d at %v, not %d at %v: %s", tail(marked), e, p, errno, at, tail(unitText(u)))
	}
}
