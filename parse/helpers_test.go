package parse_test

import (
	"fmt"
	"math"
	"reflect"
	"strconv"
	"strings"
	"testing"

	"alembic/api"
	"alembic/ctype"
	"alembic/parse"
)

// at is a place.
func at(line, col int) api.Place { return api.Place{Line: line, Col: col} }

// teller writes trees: what their forms hold, and, if it is asked for, their places.
type teller struct{ places bool }

// node is a tree with its word and its parts, a part that is none being written as _.
func (w teller) node(t api.Tree, word string, parts ...any) string {
	s := "[" + word
	if w.places {
		s += fmt.Sprintf("@%d:%d", t.At.Line, t.At.Col)
	}
	for _, p := range parts {
		switch x := p.(type) {
		case api.Tree:
			s += " " + w.tree(x)
		case []api.Tree:
			for _, k := range x {
				s += " " + w.tree(k)
			}
		case api.Type:
			s += " <" + ctype.Text(x) + ">"
		default:
			s += fmt.Sprint(" ", x)
		}
	}
	return s + "]"
}

func (w teller) leaf(t api.Tree, s string) string {
	if w.places {
		s += fmt.Sprintf("@%d:%d", t.At.Line, t.At.Col)
	}
	return s
}

func (w teller) tree(t api.Tree) string {
	switch x := t.View().(type) {
	case nil:
		return "_"
	case api.TNum:
		return w.leaf(t, strconv.FormatUint(x.Bits, 10)+x.Suffix)
	case api.TFloat:
		return w.leaf(t, fmt.Sprintf("%.15f", math.Float64frombits(x.Bits)))
	case api.TText:
		return w.leaf(t, strconv.Quote(x.Data))
	case api.TName:
		return w.leaf(t, x.Name)
	case api.TUnary:
		return w.node(t, x.Op, x.X)
	case api.TPost:
		return w.node(t, "post"+x.Op, x.X)
	case api.TBinary:
		return w.node(t, x.Op, x.X, x.Y)
	case api.TAssign:
		return w.node(t, x.Op, x.X, x.Y)
	case api.TCond:
		return w.node(t, "?", x.X, x.Y, x.Z)
	case api.TCall:
		return w.node(t, "call", x.F, x.Args)
	case api.TIndex:
		return w.node(t, "index", x.X, x.Y)
	case api.TMember:
		return w.node(t, map[bool]string{false: ".", true: "->"}[x.Arrow], x.X, x.Name)
	case api.TCast:
		return w.node(t, "cast", x.To, x.X)
	case api.TSizeType:
		return w.node(t, "sizetype", x.Of)
	case api.TSizeOf:
		return w.node(t, "sizeof", x.X)
	}
	return w.statement(t)
}

func (w teller) statement(t api.Tree) string {
	switch x := t.View().(type) {
	case api.TExpr:
		return w.node(t, "do", x.X)
	case api.TBlock:
		return w.node(t, "block", x.List)
	case api.TIf:
		return w.node(t, "if", x.X, x.Then, x.Else)
	case api.TWhile:
		return w.node(t, "while", x.X, x.Body)
	case api.TDo:
		return w.node(t, "dowhile", x.Body, x.X)
	case api.TFor:
		return w.node(t, "for", x.Init, x.X, x.Step, x.Body)
	case api.TSwitch:
		return w.node(t, "switch", x.X, x.Body)
	case api.TCase:
		return w.node(t, "case", x.X)
	case api.TJump:
		return w.node(t, strings.TrimSpace(x.Op+" "+x.Name))
	case api.TLabel:
		return w.node(t, "label", x.Name)
	case api.TReturn:
		return w.node(t, "return", x.X)
	case api.TVar:
		return w.node(t, "var", x.Type, x.Name, x.Init)
	case api.TList:
		return w.node(t, "list", x.List)
	case api.TRecord:
		return w.node(t, map[bool]string{false: "struct", true: "union"}[x.Union], x.Name, fields(x.Fields))
	case api.TFunc:
		return w.node(t, map[bool]string{false: "func", true: "extern"}[x.Extern], x.Type.Type(), x.Name, fmt.Sprint(x.Params), x.Body)
	}
	return "?"
}

func fields(list []api.Field) string {
	var parts []string
	for _, f := range list {
		parts = append(parts, fmt.Sprintf("<%s> %s %d", ctype.Text(f.Type), f.Name, f.Off))
	}
	return strings.Join(parts, ", ")
}

// show is trees without their places, each on a line.
func show(trees ...api.Tree) string { return lines(teller{}, trees) }

// showPlaces is trees with their places, each on a line.
func showPlaces(trees ...api.Tree) string { return lines(teller{places: true}, trees) }

func lines(w teller, trees []api.Tree) string {
	var list []string
	for _, t := range trees {
		list = append(list, w.tree(t))
	}
	return strings.Join(list, "\n")
}

// mustParse is the trees of a text that is taken. Each of them is what its form lays, with nothing beside.
func mustParse(t *testing.T, text string) []api.Tree {
	t.Helper()
	trees, place, errno := parse.Parse(text)
	if errno != api.OK || place != (api.Place{}) {
		t.Fatalf("%.200q: error %d at %v", text, errno, place)
	}
	for _, tree := range trees {
		checkForm(t, text, tree)
	}
	return trees
}

func checkForm(t *testing.T, text string, tree api.Tree) {
	t.Helper()
	form, ok := tree.View().(interface{ Tree() api.Tree })
	if !ok {
		return // none
	}
	laid, kids := form.Tree(), tree.Kids
	if len(laid.Kids) != len(kids) {
		t.Errorf("%.200q: %d parts, not %d", text, len(kids), len(laid.Kids))
	}
	laid.Kids, tree.Kids = nil, nil
	if !same(reflect.ValueOf(laid), reflect.ValueOf(tree)) {
		t.Errorf("%.200q: %#v, and its form lays %#v", text, tree, laid)
	}
	for _, k := range kids {
		checkForm(t, text, k)
	}
}

// same tells whether values are the same in all parts, a list without elements being none.
func same(a, b reflect.Value) bool {
	switch a.Kind() {
	case reflect.Slice:
		if a.Len() != b.Len() {
			return false
		}
		for i := range a.Len() {
			if !same(a.Index(i), b.Index(i)) {
				return false
			}
		}
		return true
	case reflect.Struct:
		for i := range a.NumField() {
			if !same(a.Field(i), b.Field(i)) {
				return false
			}
		}
		return true
	}
	return a.Equal(b)
}

func sameTrees(a, b []api.Tree) bool { return same(reflect.ValueOf(a), reflect.ValueOf(b)) }

// checkUnit asks for a unit's trees without their places.
func checkUnit(t *testing.T, text, want string) {
	t.Helper()
	if got := show(mustParse(t, text)...); got != want {
		t.Errorf("%q: %s, not %s", text, got, want)
	}
}

// checkExpr asks for an expression's tree without places, as it stands in several contexts.
func checkExpr(t *testing.T, text, want string) {
	t.Helper()
	checkUnit(t, "int f() { "+text+"; }", "[func <int()> f [] [block [do "+want+"]]]")
	checkUnit(t, "int f() { return ("+text+"); }", "[func <int()> f [] [block [return "+want+"]]]")
	checkUnit(t, "int f() { a[("+text+")](("+text+")); }", "[func <int()> f [] [block [do [call [index a "+want+"] "+want+"]]]]")
}

// checkItem asks for the tree of an item of a body, without places.
func checkItem(t *testing.T, text, want string) {
	t.Helper()
	checkUnit(t, "int f() { "+text+" }", "[func <int()> f [] [block "+want+"]]")
	checkUnit(t, "int f() { switch (a) { "+text+" } }", "[func <int()> f [] [block [switch a "+want+"]]]")
}

// checkError asks for an error and its place, and nothing beside.
func checkError(t *testing.T, text string, errno api.Errno, place api.Place) {
	t.Helper()
	trees, p, e := parse.Parse(text)
	if len(trees) != 0 || p != place || e != errno {
		t.Errorf("%.200q: %d trees, error %d at %v, not %d at %v", text, len(trees), e, p, errno, place)
	}
}

// checkStop asks for ErrSyntax at the place where the stroke ¦ stands in a text, which is left out.
func checkStop(t *testing.T, marked string) {
	t.Helper()
	ahead, behind, found := strings.Cut(marked, "¦")
	if !found {
		t.Fatalf("%q has no stroke", marked)
	}
	line := 1 + strings.Count(ahead, "\n")
	col := 1 + len([]rune(ahead[strings.LastIndexByte(ahead, '\n')+1:]))
	checkError(t, ahead+behind, api.ErrSyntax, at(line, col))
}
