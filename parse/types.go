package parse

import (
	"slices"

	"alembic/api"
)

// isSpec tells whether a token is a word with which a type begins.
func isSpec(t api.Token) bool {
	switch t.Text {
	case "void", "double", "signed", "unsigned", "char", "short", "int", "long", "struct", "union":
		return true
	}
	return false
}

// spec is the type that stands ahead of a declaration's stars and name.
func (p *parser) spec() api.Type {
	if !isSpec(p.now()) {
		p.fail()
	}
	switch word := p.next().Text; word {
	case "void":
		return api.Void{}.Type()
	case "double":
		return api.Float{}.Type()
	case "struct", "union":
		return api.Record{Name: p.name(), Union: word == "union"}.Type()
	case "signed", "unsigned":
		size := sizeOf("int")
		if p.sees("char", "short", "int", "long") {
			size = sizeOf(p.next().Text)
		}
		return api.Number{Size: size, Unsigned: word == "unsigned"}.Type()
	default:
		return api.Number{Size: sizeOf(word)}.Type()
	}
}

// sizeOf is how many bytes the numbers have whose type is such a word.
func sizeOf(word string) int {
	switch word {
	case "char":
		return 1
	case "short":
		return 2
	case "int":
		return 4
	}
	return 8
}

// starred is a spec with as many pointers as stars stand behind it.
func (p *parser) starred() api.Type {
	t := p.spec()
	for p.takes("*") {
		t = api.Pointer{To: t}.Type()
	}
	return t
}

// declared is the name and the type that a declaration without parameters gives, behind its spec and stars.
func (p *parser) declared(t api.Type) (string, api.Type) {
	if !p.takes("(") {
		name := p.name()
		return name, arrayOf(t, p.lengths())
	}
	p.want("*")
	name := p.name()
	lengths := p.lengths()
	p.want(")")
	return name, arrayOf(p.pointed(t), lengths)
}

// lengths are the numbers in brackets that stand behind a name.
func (p *parser) lengths() []int {
	var list []int
	for p.takes("[") {
		// one that no int holds is above the limit anyway
		list = append(list, int(min(p.wantKind(api.TokInt).Bits, api.MaxSize+1)))
		p.want("]")
	}
	return list
}

// arrayOf is an array of arrays, the first length being that of the outermost.
func arrayOf(t api.Type, lengths []int) api.Type {
	for _, n := range slices.Backward(lengths) {
		t = api.Array{Of: t, Len: n}.Type()
	}
	return t
}

// pointed is the type of pointers to functions of a result, whose parameters' types stand next.
func (p *parser) pointed(result api.Type) api.Type {
	return api.Pointer{To: api.Function{Result: result, Params: p.types()}.Type()}.Type()
}

func (p *parser) types() []api.Type {
	var list []api.Type
	p.want("(")
	if p.takesNone() {
		return nil
	}
	for range p.commas(")") {
		list = append(list, p.typeName())
	}
	return list
}

// takesNone takes what says that there are no parameters, and the parenthesis behind it, if that stands next.
func (p *parser) takesNone() bool {
	if p.sees("void") && p.ahead(1).Text == ")" {
		p.next()
	}
	return p.takes(")")
}

// typeName is a type that stands without a name.
func (p *parser) typeName() api.Type {
	p.enter()
	defer p.leave()
	t := p.starred()
	if !p.takes("(") {
		return t
	}
	p.want("*")
	p.want(")")
	return p.pointed(t)
}

// params are the names and the types of a function's parameters.
func (p *parser) params() ([]string, []api.Type) {
	var names []string
	var types []api.Type
	p.want("(")
	if p.takesNone() {
		return nil, nil
	}
	for range p.commas(")") {
		name, t := p.param()
		names, types = append(names, name), append(types, t)
	}
	return names, types
}

func (p *parser) param() (string, api.Type) {
	t := p.starred()
	if !p.takes("(") {
		return p.name(), t
	}
	p.want("*")
	name := p.name()
	p.want(")")
	return name, p.pointed(t)
}
