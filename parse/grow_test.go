package parse_test

import (
	"fmt"
	"math"
	"slices"
	"strconv"
	"strings"
	"testing"

	"alembic/api"
	"alembic/lex"
	"alembic/parse"
)

// grower makes units by the document's grammar: their tokens, and their trees, in which the places are the tokens' numbers.
type grower struct {
	n      uint64
	room   int // how much more may still be made
	tokens []string
}

// below is a number below n, by a rule that scatters.
func (g *grower) below(n int) int {
	g.n = g.n*6364136223846793005 + 1442695040888963407
	return int(g.n >> 33 % uint64(n))
}

// often tells true n times in ten, as long as there is room.
func (g *grower) often(n int) bool {
	g.room--
	return g.room > 0 && g.below(10) < n
}

// put puts tokens behind the others, and is the mark of the first one.
func (g *grower) put(tokens ...string) api.Mark {
	at := g.here()
	g.tokens = append(g.tokens, tokens...)
	return at
}

// here is the mark of the token that comes next.
func (g *grower) here() api.Mark { return api.Mark{At: api.Place{Col: len(g.tokens)}} }

func (g *grower) pick(words ...string) string { return words[g.below(len(words))] }

func (g *grower) name() string {
	s := g.pick("a", "b", "x", "_", "f", "main", "ints", "If", "s1", "voi", "structs")
	g.put(s)
	return s
}

// unit is records, variables and functions.
func (g *grower) unit() []api.Tree {
	var trees []api.Tree
	for range 1 + g.below(4) {
		g.room = 60
		switch g.below(4) {
		case 0:
			trees = append(trees, g.record())
		case 1:
			trees = append(trees, g.variable())
		default:
			trees = append(trees, g.function())
		}
	}
	return trees
}

func (g *grower) record() api.Tree {
	r := api.TRecord{Mark: g.here(), Union: g.below(2) == 0}
	g.put(map[bool]string{false: "struct", true: "union"}[r.Union])
	r.Name = g.name()
	g.put("{")
	for more := true; more; more = g.often(6) {
		name, t := g.declaration()
		g.put(";")
		r.Fields = append(r.Fields, api.Field{Name: name, Type: t})
	}
	g.put("}", ";")
	return r.Tree()
}

func (g *grower) function() api.Tree {
	f := api.TFunc{Mark: g.here(), Extern: g.below(4) == 0}
	if f.Extern {
		g.put("extern")
	}
	f.Type.Result = g.starred()
	f.Name = g.name()
	g.put("(")
	for i := range g.below(4) {
		if i > 0 {
			g.put(",")
		}
		t := g.starred()
		if g.below(4) == 0 {
			g.put("(", "*")
			f.Params = append(f.Params, g.name())
			g.put(")")
			t = g.pointed(t)
		} else {
			f.Params = append(f.Params, g.name())
		}
		f.Type.Params = append(f.Type.Params, t)
	}
	if len(f.Params) == 0 && g.below(2) == 0 {
		g.put("void")
	}
	g.put(")")
	if f.Extern || g.below(4) == 0 {
		g.put(";")
	} else {
		f.Body = g.block()
	}
	return f.Tree()
}

func (g *grower) spec() api.Type {
	sizes := []string{"char", "short", "int", "long"}
	switch g.below(8) {
	case 0:
		g.put("void")
		return api.Void{}.Type()
	case 1:
		g.put("double")
		return api.Float{}.Type()
	case 2:
		union := g.put(g.pick("struct", "union")).At.Col
		return api.Record{Union: g.tokens[union] == "union", Name: g.name()}.Type()
	case 3:
		word := g.pick("signed", "unsigned")
		g.put(word)
		return api.Number{Size: 4, Unsigned: word == "unsigned"}.Type()
	case 4, 5:
		word, i := g.pick("signed", "unsigned"), g.below(4)
		g.put(word, sizes[i])
		return api.Number{Size: 1 << i, Unsigned: word == "unsigned"}.Type()
	default:
		i := g.below(4)
		g.put(sizes[i])
		return api.Number{Size: 1 << i}.Type()
	}
}

func (g *grower) starred() api.Type {
	t := g.spec()
	for g.below(3) == 0 {
		g.put("*")
		t = api.Pointer{To: t}.Type()
	}
	return t
}

// pointed is the type of pointers to functions of a result, the parameters' types being made.
func (g *grower) pointed(result api.Type) api.Type {
	f := api.Function{Result: result}
	g.put("(")
	for i := range g.below(3) {
		if i > 0 {
			g.put(",")
		}
		f.Params = append(f.Params, g.typeName())
	}
	if len(f.Params) == 0 && g.below(2) == 0 {
		g.put("void")
	} else if len(f.Params) == 1 && f.Params[0].Kind == api.KVoid {
		f.Params = nil
	}
	g.put(")")
	return api.Pointer{To: f.Type()}.Type()
}

func (g *grower) typeName() api.Type {
	t := g.starred()
	if !g.often(2) {
		return t
	}
	g.put("(", "*", ")")
	return g.pointed(t)
}

// declaration is one without parameters.
func (g *grower) declaration() (string, api.Type) {
	t := g.starred()
	if g.below(5) > 0 {
		name := g.name()
		lengths := g.lengths()
		return name, inArrays(t, lengths)
	}
	g.put("(", "*")
	name := g.name()
	lengths := g.lengths()
	g.put(")")
	return name, inArrays(g.pointed(t), lengths)
}

func (g *grower) lengths() []int {
	var list []int
	for g.below(4) == 0 {
		n := 1 + g.below(20)
		g.put("[", strconv.Itoa(n), "]")
		list = append(list, n)
	}
	return list
}

func inArrays(t api.Type, lengths []int) api.Type {
	if len(lengths) == 0 {
		return t
	}
	return api.Array{Of: inArrays(t, lengths[1:]), Len: lengths[0]}.Type()
}

func (g *grower) variable() api.Tree {
	v := api.TVar{Mark: g.here()}
	v.Name, v.Type = g.declaration()
	if g.below(2) == 0 {
		g.put("=")
		v.Init = g.beginning()
	}
	g.put(";")
	return v.Tree()
}

func (g *grower) beginning() api.Tree {
	if !g.often(3) {
		return g.assign()
	}
	l := api.TList{Mark: g.put("{")}
	l.List = append(l.List, g.beginning())
	for g.often(5) {
		g.put(",")
		l.List = append(l.List, g.beginning())
	}
	g.put("}")
	return l.Tree()
}

func (g *grower) block() api.Tree {
	b := api.TBlock{Mark: g.put("{")}
	for g.often(7) {
		b.List = append(b.List, g.item())
	}
	g.put("}")
	return b.Tree()
}

func (g *grower) item() api.Tree {
	switch g.below(8) {
	case 0:
		at := g.here()
		name := g.name()
		g.put(":")
		return api.TLabel{Mark: at, Name: name}.Tree()
	case 1, 2:
		return g.variable()
	}
	return g.statement(false)
}

// statement is one behind which, where it is closed, an else can stand that isn't its own.
func (g *grower) statement(closed bool) api.Tree {
	at := g.here()
	if !g.often(6) {
		switch g.below(6) {
		case 0:
			g.put(";")
			return api.TExpr{Mark: at}.Tree()
		case 1:
			g.put("return", ";")
			return api.TReturn{Mark: at}.Tree()
		case 2:
			word := g.pick("break", "continue")
			g.put(word, ";")
			return api.TJump{Mark: at, Op: word}.Tree()
		case 3:
			g.put("goto")
			name := g.name()
			g.put(";")
			return api.TJump{Mark: at, Op: "goto", Name: name}.Tree()
		}
		x := g.expr()
		g.put(";")
		return api.TExpr{Mark: at, X: x}.Tree()
	}
	switch g.below(7) {
	case 0:
		return g.block()
	case 1, 2:
		return g.choice(closed)
	case 3:
		return g.loop(closed)
	case 4:
		return g.choices()
	case 5:
		g.put("return")
		x := g.expr()
		g.put(";")
		return api.TReturn{Mark: at, X: x}.Tree()
	}
	return g.repeat(closed)
}

func (g *grower) inside() api.Tree {
	g.put("(")
	x := g.expr()
	g.put(")")
	return x
}

func (g *grower) choice(closed bool) api.Tree {
	s := api.TIf{Mark: g.put("if")}
	s.X = g.inside()
	if !closed && g.below(2) == 0 {
		s.Then = g.statement(false)
		return s.Tree()
	}
	s.Then = g.statement(true)
	g.put("else")
	s.Else = g.statement(closed)
	return s.Tree()
}

func (g *grower) repeat(closed bool) api.Tree {
	if g.below(2) == 0 {
		s := api.TWhile{Mark: g.put("while")}
		s.X = g.inside()
		s.Body = g.statement(closed)
		return s.Tree()
	}
	s := api.TDo{Mark: g.put("do")}
	s.Body = g.statement(false)
	g.put("while")
	s.X = g.inside()
	g.put(";")
	return s.Tree()
}

func (g *grower) loop(closed bool) api.Tree {
	s := api.TFor{Mark: g.put("for")}
	g.put("(")
	first := api.TExpr{Mark: g.here()}
	switch g.below(3) {
	case 0:
		s.Init = g.variable()
	case 1:
		first.X = g.expr()
		fallthrough
	default:
		g.put(";")
		s.Init = first.Tree()
	}
	if g.below(2) == 0 {
		s.X = g.expr()
	}
	g.put(";")
	if g.below(2) == 0 {
		s.Step = g.expr()
	}
	g.put(")")
	s.Body = g.statement(closed)
	return s.Tree()
}

func (g *grower) choices() api.Tree {
	s := api.TSwitch{Mark: g.put("switch")}
	s.X = g.inside()
	g.put("{")
	for g.often(7) {
		at := g.here()
		switch g.below(4) {
		case 0:
			g.put("case")
			x := g.cond()
			g.put(":")
			s.Body = append(s.Body, api.TCase{Mark: at, X: x}.Tree())
		case 1:
			g.put("default", ":")
			s.Body = append(s.Body, api.TCase{Mark: at}.Tree())
		default:
			s.Body = append(s.Body, g.item())
		}
	}
	g.put("}")
	return s.Tree()
}

func (g *grower) expr() api.Tree {
	x := g.assign()
	for g.often(1) {
		at := g.put(",")
		x = api.TBinary{Mark: at, Op: ",", X: x, Y: g.assign()}.Tree()
	}
	return x
}

func (g *grower) assign() api.Tree {
	x := g.cond()
	if !g.often(2) {
		return x
	}
	op := g.pick(assigns...)
	at := g.put(op)
	return api.TAssign{Mark: at, Op: op, X: x, Y: g.assign()}.Tree()
}

func (g *grower) cond() api.Tree {
	x := g.binary(0)
	if !g.often(1) {
		return x
	}
	c := api.TCond{Mark: g.put("?"), X: x}
	c.Y = g.expr()
	g.put(":")
	c.Z = g.cond()
	return c.Tree()
}

func (g *grower) binary(level int) api.Tree {
	if level == len(levels) {
		return g.unary()
	}
	x := g.binary(level + 1)
	for g.below(12) == 0 && g.room > 0 {
		op := g.pick(levels[level]...)
		at := g.put(op)
		x = api.TBinary{Mark: at, Op: op, X: x, Y: g.binary(level + 1)}.Tree()
	}
	return x
}

func (g *grower) unary() api.Tree {
	if !g.often(3) {
		return g.post()
	}
	at := g.here()
	switch g.below(5) {
	case 0:
		g.put("sizeof", "(")
		t := g.typeName()
		g.put(")")
		return api.TSizeType{Mark: at, Of: t}.Tree()
	case 1:
		g.put("(")
		t := g.typeName()
		g.put(")")
		return api.TCast{Mark: at, To: t, X: g.unary()}.Tree()
	case 2:
		g.put("sizeof")
		return api.TSizeOf{Mark: at, X: g.post()}.Tree()
	}
	op := g.pick("-", "~", "!", "*", "&", "++", "--")
	g.put(op)
	return api.TUnary{Mark: at, Op: op, X: g.unary()}.Tree()
}

func (g *grower) post() api.Tree {
	x := g.first()
	for g.often(2) {
		at := g.here()
		switch op := g.pick("[", "(", ".", "->", "++", "--"); op {
		case "[":
			g.put("[")
			y := g.expr()
			g.put("]")
			x = api.TIndex{Mark: at, X: x, Y: y}.Tree()
		case "(":
			g.put("(")
			var args []api.Tree
			for i := range g.below(3) {
				if i > 0 {
					g.put(",")
				}
				args = append(args, g.assign())
			}
			g.put(")")
			x = api.TCall{Mark: at, F: x, Args: args}.Tree()
		case ".", "->":
			g.put(op)
			x = api.TMember{Mark: at, X: x, Name: g.name(), Arrow: op == "->"}.Tree()
		default:
			g.put(op)
			x = api.TPost{Mark: at, Op: op, X: x}.Tree()
		}
	}
	return x
}

func (g *grower) first() api.Tree {
	at := g.here()
	if g.often(1) {
		return g.inside()
	}
	switch g.below(8) {
	case 0:
		g.put("'é'")
		return api.TNum{Mark: at, Bits: 233}.Tree()
	case 1:
		g.put("0.5")
		return api.TFloat{Mark: at, Bits: math.Float64bits(0.5)}.Tree()
	case 2:
		g.put(`"é\n"`)
		return api.TText{Mark: at, Data: "é\n"}.Tree()
	case 3, 4:
		n, suffix := g.below(100), g.pick("", "u", "l", "ul")
		g.put(strconv.Itoa(n) + suffix)
		return api.TNum{Mark: at, Bits: uint64(n), Suffix: suffix}.Tree()
	}
	return api.TName{Mark: at, Name: g.name()}.Tree()
}

// grown is a unit: its tokens and its trees.
func grown(seed int) ([]string, []api.Tree) {
	g := grower{n: uint64(seed)*0x9e3779b97f4a7c15 + 1}
	trees := g.unit()
	return g.tokens, trees
}

// laidOut is a text of tokens with blanks between, and their places.
func laidOut(tokens []string, blanks func(i int) string) (string, []api.Place) {
	var b strings.Builder
	var places []api.Place
	here := at(1, 1)
	write := func(s string) {
		for _, r := range s {
			if r == '\n' {
				here = at(here.Line+1, 1)
			} else {
				here.Col++
			}
		}
		b.WriteString(s)
	}
	for i, s := range tokens {
		write(blanks(i))
		places = append(places, here)
		write(s)
	}
	write(blanks(len(tokens)))
	return b.String(), places
}

// placed is trees in which the tokens' numbers have become their places.
func placed(trees []api.Tree, places []api.Place) []api.Tree {
	trees = slices.Clone(trees)
	for i, t := range trees {
		trees[i].Kids = placed(t.Kids, places)
		if !t.None() {
			trees[i].At = places[t.At.Col]
		}
	}
	return trees
}

func checkGrown(t *testing.T, text string, want []api.Tree) {
	t.Helper()
	got, place, errno := parse.Parse(text)
	if errno != api.OK || place != (api.Place{}) || !sameTrees(got, want) {
		t.Fatalf("%s\nerror %d at %v:\n%s\nnot\n%s", text, errno, place, showPlaces(got...), showPlaces(want...))
	}
}

// P6.1, P6.2: units made by the grammar have the trees that they were made with, whatever blanks stand between their tokens.
func TestGrownUnits(t *testing.T) {
	for seed := range 4000 {
		tokens, trees := grown(seed)
		for _, blanks := range []func(i int) string{
			func(int) string { return " " },
			func(int) string { return "\n" },
			func(i int) string { return []string{" ", "\t", "\r\n", "  \n ", "\n\n"}[(seed+i*i)%5] },
		} {
			text, places := laidOut(tokens, blanks)
			checkGrown(t, text, placed(trees, places))
		}
	}
}

// P6.2: without all the blanks that aren't needed, only the places are others.
func TestNoBlanks(t *testing.T) {
	for seed := range 2000 {
		tokens, trees := grown(seed)
		text, places := laidOut(tokens, func(i int) string {
			if i == 0 || i == len(tokens) {
				return ""
			}
			two, _, errno := lex.Tokens(tokens[i-1] + tokens[i])
			if errno == api.OK && len(two) == 3 && two[0].Text == tokens[i-1] {
				return ""
			}
			return " "
		})
		checkGrown(t, text, placed(trees, places))
	}
}

// P6.2: a unit behind another one is parsed into the trees of both.
func TestOneBehindAnother(t *testing.T) {
	for seed := range 1500 {
		tokens, trees := grown(seed)
		more, others := grown(seed + 7000)
		n := len(tokens)
		both, places := laidOut(append(slices.Clip(tokens), more...), func(int) string { return " " })
		checkGrown(t, both, append(placed(trees, places), placed(others, places[n:])...))
	}
}

// broken is tokens in which something was changed.
func broken(g *grower, tokens []string) []string {
	words := []string{"x", "1", "1.5", "'a'", `"a"`, "int", "struct", "void", "unsigned", "if", "else", "case", "default", "while", "extern", "sizeof", "return", "goto", "(", ")", "[", "]", "{", "}", ";", ",", ":", "?", "=", "+=", "*", "&", "-", "+", "!", "++", ".", "->", "<<", "&&"}
	list := slices.Clone(tokens)
	i, j := g.below(len(list)), g.below(len(list))
	switch g.below(5) {
	case 0:
		return slices.Delete(list, i, i+1)
	case 1:
		return slices.Insert(list, i, list[j])
	case 2:
		list[i], list[j] = list[j], list[i]
	case 3:
		list[i] = g.pick(words...)
	default:
		return slices.Insert(list, i, g.pick(words...))
	}
	return list
}

// P6.1: units in which something was changed stop where the grammar says, if they do.
func TestBrokenUnits(t *testing.T) {
	r := readRules(grammar)
	for seed := range 3000 {
		tokens, _ := grown(seed)
		if len(tokens) > 150 {
			continue
		}
		g := &grower{n: uint64(seed)}
		for range 3 {
			text := strings.Join(broken(g, tokens), " ")
			checkAsGrammar(t, r, text)
		}
	}
}

// P6.1: so do lists of tokens by chance.
func TestScatteredTokens(t *testing.T) {
	r := readRules(grammar)
	g := &grower{n: 5}
	for range 3000 {
		tokens := strings.Fields(g.pick("", "int f ( ) {", "int x =", "struct s {", "int f (", "int f ( ) { switch ( x ) {", "extern", "int x = ("))
		c := newChart(r)
		for _, s := range tokens {
			k, _, _ := lex.Tokens(s)
			c.push(wordOf(k[0]))
		}
		for range g.below(25) {
			w := c.words[g.below(len(c.words))]
			for range 40 { // mostly what may come next
				if c.push(w) {
					break
				}
				w = c.words[g.below(len(c.words))]
			}
			tokens = append(tokens, spell(w))
		}
		checkAsGrammar(t, r, strings.Join(tokens, " "))
	}
}

// The units that are made have trees of each kind.
func TestGrownKinds(t *testing.T) {
	seen := map[int]int{}
	var look func(trees []api.Tree)
	look = func(trees []api.Tree) {
		for _, t := range trees {
			seen[t.Kind]++
			look(t.Kids)
		}
	}
	longest := 0
	for seed := range 4000 {
		tokens, trees := grown(seed)
		longest = max(longest, len(tokens))
		look(trees)
	}
	for kind := api.KTNum; kind <= api.KTFunc; kind++ {
		if seen[kind] < 100 {
			t.Error(fmt.Sprint(kind, " stands in them ", seen[kind], " times"))
		}
	}
	if longest < 100 {
		t.Error(longest)
	}
}
