package check_test

import (
	"fmt"
	"strconv"
	"strings"
	"testing"
)

// grower makes expressions of which it knows what they become.
type grower struct {
	n    uint64
	text int // how many strings there are
}

// grown is an expression: its text, its type and its Core; of a place, that of its address.
type grown struct{ text, of, core string }

// below is a number below n, by a rule that scatters.
func (g *grower) below(n int) int {
	g.n = g.n*6364136223846793005 + 1442695040888963407
	return int(g.n >> 33 % uint64(n))
}

func (g *grower) pick(words ...string) string { return words[g.below(len(words))] }

func (g *grower) number() number { return numbers()[g.below(len(numbers()))] }

func (g *grower) whole() number { return numbers()[g.below(len(numbers())-1)] }

// pointee is what a pointer points to, and how many bytes that has.
func pointee(of string) (string, int) {
	to := strings.TrimSuffix(of, " *")
	if n, ok := isNumber(to); ok {
		return to, n.size
	}
	if to == "struct r" {
		return to, 64
	}
	return to, 8
}

func (g *grower) pointer() string {
	return g.pick("int *", "int * *", "char *", "unsigned char *", "double *", "struct r *", "short *", "long *")
}

// place is a place of a type.
func (g *grower) place(of string, depth int) grown {
	if depth == 0 || g.below(3) == 0 {
		return g.name(of)
	}
	_, size := pointee(of + " *")
	p := g.value(of+" *", depth-1)
	switch g.below(3) {
	case 0:
		return grown{"(*" + p.text + ")", of, p.core}
	case 1:
		n := g.whole()
		i := g.value(n.name, depth-1)
		return grown{"(" + p.text + "[" + i.text + "])", of, fmt.Sprintf("(addl %s (mull %s %dL))", p.core, conv(i.core, n, numberOf("long")), size)}
	}
	n := g.whole()
	i := g.value(n.name, depth-1)
	return grown{"(" + i.text + "[" + p.text + "])", of, fmt.Sprintf("(addl (mull %s %dL) %s)", conv(i.core, n, numberOf("long")), size, p.core)}
}

// name is a place of a type that has a name, or is a member.
func (g *grower) name(of string) grown {
	members := map[string]string{"int": "b 4", "double": "e 8", "struct r *": "next 32"}
	if m, ok := members[of]; ok && g.below(3) == 0 {
		name, off, _ := strings.Cut(m, " ")
		if g.below(2) == 0 {
			return grown{"g." + name, of, "(addl @g " + off + "L)"}
		}
		return grown{"gp->" + name, of, "(addl (load c64 @gp) " + off + "L)"}
	}
	if n, ok := isNumber(of); ok {
		return grown{n.short, of, "@" + n.short}
	}
	name := map[string]string{"int *": "p", "int * *": "pp", "char *": "cp", "unsigned char *": "ucp", "double *": "dp", "struct r *": "gp", "short *": "sp", "long *": "lp", "void *": "v", "struct r": "g"}[of]
	if name == "" { // nothing has it but what is cast
		return grown{"(*(" + of + " *) v)", of, "(load c64 @v)"}
	}
	return grown{name, of, "@" + name}
}

func chunkOf(of string) string {
	if n, ok := isNumber(of); ok {
		return n.chunk
	}
	return "c64"
}

// value is a value of a type.
func (g *grower) value(of string, depth int) grown {
	if depth > 0 {
		switch g.below(9) {
		case 0:
			return g.assignment(of, depth-1)
		case 1:
			return g.step(of, depth-1)
		case 2:
			return g.condition(of, depth-1)
		case 3:
			x, y := g.any(depth-1), g.value(of, depth-1)
			return grown{"(" + x.text + ", " + y.text + ")", of, "(, " + x.core + " " + y.core + ")"}
		case 4:
			return g.cast(of, depth-1)
		}
		if n, ok := isNumber(of); ok {
			return g.reckoned(n, depth-1)
		}
		return g.moved(of, depth-1)
	}
	if of == "char *" && g.below(3) == 0 {
		g.text++
		return grown{`"s"`, of, "@.s" + strconv.Itoa(g.text-1)}
	}
	if of == "int *" && g.below(3) == 0 {
		return grown{"a", of, "@a"}
	}
	p := g.name(of)
	return grown{p.text, of, "(load " + chunkOf(of) + " " + p.core + ")"}
}

// any is a value of any type.
func (g *grower) any(depth int) grown {
	if g.below(4) == 0 {
		return g.value(g.pointer(), depth)
	}
	return g.value(g.number().name, depth)
}

func (g *grower) assignment(of string, depth int) grown {
	p := g.place(of, depth)
	to, ok := isNumber(of)
	if !ok {
		x := g.value(g.pick(of, "void *"), depth)
		if g.below(5) == 0 {
			x = grown{"0", "", "0L"}
		}
		return grown{"(" + p.text + " = " + x.text + ")", of, "(assign c64 " + p.core + " " + x.core + ")"}
	}
	from := g.number()
	x := g.value(from.name, depth)
	o := infix()[g.below(8)]
	in := meet(to, from)
	if g.below(2) == 0 || o.whole && in.double() {
		return grown{"(" + p.text + " = " + x.text + ")", of, "(assign " + to.chunk + " " + p.core + " " + conv(x.core, from, to) + ")"}
	}
	changed := conv("("+op(o.word, in)+" "+conv("old", to, in)+" arg)", in, to)
	return grown{"(" + p.text + " " + o.sign + "= " + x.text + ")", of, "(modify " + to.chunk + " " + p.core + " " + conv(x.core, from, in) + " " + changed + ")"}
}

func (g *grower) step(of string, depth int) grown {
	p := g.place(of, depth)
	sign, word := "++", "add"
	if g.below(2) == 0 {
		sign, word = "--", "sub"
	}
	changed, one := "("+word+"l old arg)", ""
	if n, ok := isNumber(of); ok {
		in := meet(n, numberOf("int"))
		changed = conv("("+op(word, in)+" "+conv("old", n, in)+" arg)", in, n)
		one = conv("1", numberOf("int"), in)
	} else {
		to, size := pointee(of)
		one = fmt.Sprintf("%dL", size)
		if to == "void" {
			return g.value(of, 0)
		}
	}
	parts := " " + chunkOf(of) + " " + p.core + " " + one + " " + changed + ")"
	if g.below(2) == 0 {
		return grown{"(" + sign + p.text + ")", of, "(modify" + parts}
	}
	return grown{"(" + p.text + sign + ")", of, "(back" + parts}
}

func (g *grower) condition(of string, depth int) grown {
	x, y, z := g.any(depth), g.value(of, depth), g.value(of, depth)
	if n, ok := isNumber(of); ok && n.size < 4 { // the choice of two small ones isn't small
		return y
	} else if !ok && g.below(4) == 0 {
		z = grown{"0", "", "0L"}
	}
	return grown{"(" + x.text + " ? " + y.text + " : " + z.text + ")", of, "(? " + x.core + " " + y.core + " " + z.core + ")"}
}

func (g *grower) cast(of string, depth int) grown {
	to, ok := isNumber(of)
	if !ok {
		x := g.value(g.pick(g.pointer(), "void *"), depth)
		return grown{"((" + of + ") " + x.text + ")", of, x.core}
	}
	from := g.number()
	x := g.value(from.name, depth)
	return grown{"((" + of + ") " + x.text + ")", of, conv(x.core, from, to)}
}

// moved is a pointer and a number.
func (g *grower) moved(of string, depth int) grown {
	to, size := pointee(of)
	if to == "void" {
		return g.cast(of, depth)
	}
	n := g.whole()
	p := g.value(of, depth)
	i := g.value(n.name, depth)
	by := fmt.Sprintf("(mull %s %dL)", conv(i.core, n, numberOf("long")), size)
	if g.below(2) == 0 {
		return grown{"(" + p.text + " - " + i.text + ")", of, "(subl " + p.core + " " + by + ")"}
	}
	return grown{"(" + p.text + " + " + i.text + ")", of, "(addl " + p.core + " " + by + ")"}
}

// reckoned is a number of a type, out of numbers that have it, or by a cast of what comes of them.
func (g *grower) reckoned(n number, depth int) grown {
	x, from := g.operation(depth)
	if from.name == n.name {
		return x
	}
	return grown{"((" + n.name + ") " + x.text + ")", n.name, conv(x.core, from, n)}
}

// operation is a number out of other values.
func (g *grower) operation(depth int) (grown, number) {
	x, y := g.number(), g.number()
	v, w := g.value(x.name, depth), g.value(y.name, depth)
	in, truth := meet(x, y), numberOf("int")
	o := infix()[g.below(len(infix()))]
	switch {
	case g.below(6) == 0:
		return g.compared(depth), truth
	case g.below(6) == 0:
		sign := g.pick("&&", "||")
		return grown{"(" + v.text + " " + sign + " " + w.text + ")", "int", "(" + sign + " " + v.core + " " + w.core + ")"}, truth
	case g.below(6) == 0:
		return grown{"(!" + w.text + ")", "int", "(false " + w.core + ")"}, truth
	case g.below(6) == 0:
		return grown{"(-" + w.text + ")", "", "(" + op("neg", lift(y)) + " " + w.core + ")"}, lift(y)
	case g.below(6) == 0:
		return grown{"fp(" + v.text + ", " + w.text + ")", "int", "(call int(int,double) (load c64 @fp) " + conv(v.core, x, truth) + " " + conv(w.core, y, numberOf("double")) + ")"}, truth
	case g.below(6) == 0 && !x.double() && !y.double():
		in = lift(x)
		return grown{"(" + v.text + " >> " + w.text + ")", "", "(" + op("shr", in) + " " + v.core + " " + far(w.core, y) + ")"}, in
	case o.whole && in.double():
		return v, x
	case !o.truth:
		truth = in
	}
	return grown{"(" + v.text + " " + o.sign + " " + w.text + ")", "", "(" + op(o.word, in) + " " + conv(v.core, x, in) + " " + conv(w.core, y, in) + ")"}, truth
}

// compared is a comparison of pointers, or the size of something.
func (g *grower) compared(depth int) grown {
	of := g.pointer()
	p, q := g.value(of, depth), g.value(of, depth)
	switch g.below(4) {
	case 0:
		return grown{"(" + p.text + " == 0)", "int", "(eql " + p.core + " 0L)"}
	case 1:
		return grown{"(v != " + p.text + ")", "int", "(nel (load c64 @v) " + p.core + ")"}
	case 2:
		_, size := pointee(of)
		return grown{"((int) (" + p.text + " - " + q.text + "))", "int", fmt.Sprintf("(int (divl (subl %s %s) %dL))", p.core, q.core, size)}
	}
	return grown{"(" + p.text + " < " + q.text + ")", "int", "(ltul " + p.core + " " + q.core + ")"}
}

// P7.1, P7.2: expressions made of others become what they were made to become, and are right.
func TestGrownExpressions(t *testing.T) {
	skipped := 0
	for seed := range 4000 {
		g := &grower{n: uint64(seed)*0x9e3779b97f4a7c15 + 1}
		x := g.any(1 + seed%5)
		if strings.Count(x.text, `"s"`) != g.text || len(x.text) > 20000 || strings.Contains(x.core, "@.s") && !inOrder(x.core) {
			skipped++
			continue
		}
		if n, ok := isNumber(x.of); ok {
			wantBody(t, "d = "+x.text+";", "(do (assign cf64 @d "+conv(x.core, n, numberOf("double"))+"))")
		}
		wantBody(t, x.text+";", "(do "+x.core+")")
		if t.Failed() {
			t.Fatal(x.text)
		}
	}
	if skipped > 500 {
		t.Errorf("%d of them were left out", skipped)
	}
}

// inOrder tells whether the strings' numbers rise in an expression.
func inOrder(core string) bool {
	for n := 0; ; n++ {
		_, behind, found := strings.Cut(core, "@.s")
		if !found {
			return true
		}
		if !strings.HasPrefix(behind, strconv.Itoa(n)) {
			return false
		}
		core = behind
	}
}
