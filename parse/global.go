package parse

import (
	"alembic/api"
)

// global is a record, a variable or a function of the unit.
func (p *parser) global() *api.Tree {
	if p.seesRecord() {
		return p.record()
	}
	at := p.mark()
	extern := p.takes("extern")
	t := p.starred()
	if extern || p.now().Kind == api.TokName && p.ahead(1).Text == "(" {
		return p.function(at, extern, t)
	}
	return p.variable(at, t)
}

// seesRecord tells whether a record's members stand next, and not just its name as a type.
func (p *parser) seesRecord() bool {
	return p.sees("struct", "union") && p.ahead(2).Text == "{"
}

func (p *parser) record() *api.Tree {
	r := api.TRecord{Mark: p.mark()}
	r.Union = p.want("struct", "union").Text == "union"
	r.Name = p.name()
	p.want("{")
	r.Fields = append(r.Fields, p.member())
	for range p.until("}") {
		r.Fields = append(r.Fields, p.member())
	}
	p.want(";")
	return p.laid(&r)
}

func (p *parser) member() api.Field {
	name, t := p.declared(p.starred())
	p.want(";")
	return api.Field{Name: name, Type: t}
}

// function is a function, behind its result's type.
func (p *parser) function(at api.Mark, extern bool, result api.Type) *api.Tree {
	f := api.TFunc{Mark: at, Name: p.name(), Extern: extern}
	names, types := p.params()
	f.Params, f.Type = names, api.Function{Result: result, Params: types}
	if !extern && p.sees("{") {
		f.Body = *p.block()
	} else {
		p.want(";")
	}
	return p.laid(&f)
}

// variable is a declaration without parameters, behind its spec and stars, with its beginning, up to its semicolon.
func (p *parser) variable(at api.Mark, t api.Type) *api.Tree {
	name, t := p.declared(t)
	init := none()
	if p.takes("=") {
		init = p.beginning()
	}
	p.want(";")
	return p.laid(&api.TVar{Mark: at, Name: name, Type: t, Init: *init})
}

// beginning is what a variable begins with.
func (p *parser) beginning() *api.Tree {
	if !p.sees("{") {
		return p.assign()
	}
	p.enter()
	defer p.leave()
	at := p.mark()
	p.want("{")
	var list []api.Tree
	for range p.commas("}") {
		list = append(list, *p.beginning())
	}
	return p.laid(&api.TList{Mark: at, List: list})
}
