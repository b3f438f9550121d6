package parse

import (
	"alembic/api"
)

// block is a body: items in braces.
func (p *parser) block() *api.Tree {
	at := p.mark()
	p.want("{")
	var list []api.Tree
	for range p.until("}") {
		list = append(list, *p.item())
	}
	return p.laid(&api.TBlock{Mark: at, List: list})
}

// item is a label, a local variable or a statement.
func (p *parser) item() *api.Tree {
	at := p.mark()
	switch {
	case p.now().Kind == api.TokName && p.ahead(1).Text == ":":
		name := p.name()
		p.want(":")
		return p.laid(&api.TLabel{Mark: at, Name: name})
	case isSpec(p.now()):
		return p.variable(at, p.starred())
	}
	return p.statement()
}

func (p *parser) statement() *api.Tree {
	p.enter()
	defer p.leave()
	switch p.now().Text {
	case "{":
		return p.block()
	case "if":
		return p.ifStatement()
	case "while":
		return p.whileStatement()
	case "do":
		return p.doStatement()
	case "for":
		return p.forStatement()
	case "switch":
		return p.switchStatement()
	case "break", "continue", "goto":
		return p.jump()
	case "return":
		return p.returnStatement()
	}
	return p.effect()
}

// effect is an expression, or nothing, as a statement.
func (p *parser) effect() *api.Tree {
	return p.laid(&api.TExpr{Mark: p.mark(), X: *p.upTo(";")})
}

// upTo is the expression that stands ahead of a sign, or none, and takes the sign.
func (p *parser) upTo(end string) *api.Tree {
	if p.takes(end) {
		return none()
	}
	x := p.expr()
	p.want(end)
	return x
}

func (p *parser) ifStatement() *api.Tree {
	at := p.mark()
	p.want("if")
	x, then, other := p.inside(), p.statement(), none()
	if p.takes("else") {
		other = p.statement()
	}
	return p.laid(&api.TIf{Mark: at, X: *x, Then: *then, Else: *other})
}

func (p *parser) whileStatement() *api.Tree {
	at := p.mark()
	p.want("while")
	return p.laid(&api.TWhile{Mark: at, X: *p.inside(), Body: *p.statement()})
}

func (p *parser) doStatement() *api.Tree {
	at := p.mark()
	p.want("do")
	body := p.statement()
	p.want("while")
	x := p.inside()
	p.want(";")
	return p.laid(&api.TDo{Mark: at, Body: *body, X: *x})
}

func (p *parser) forStatement() *api.Tree {
	at := p.mark()
	p.want("for")
	p.want("(")
	return p.laid(&api.TFor{Mark: at, Init: *p.forInit(), X: *p.upTo(";"), Step: *p.upTo(")"), Body: *p.statement()})
}

// forInit is the first part of what stands in a for's parentheses, its semicolon too.
func (p *parser) forInit() *api.Tree {
	if isSpec(p.now()) {
		return p.variable(p.mark(), p.starred())
	}
	return p.effect()
}

func (p *parser) switchStatement() *api.Tree {
	at := p.mark()
	p.want("switch")
	x := p.inside()
	p.want("{")
	var body []api.Tree
	for range p.until("}") {
		body = append(body, *p.switchItem())
	}
	return p.laid(&api.TSwitch{Mark: at, X: *x, Body: body})
}

// switchItem is a case, the default, or an item.
func (p *parser) switchItem() *api.Tree {
	at, x := p.mark(), none()
	switch {
	case p.takes("case"):
		x = p.cond()
	case !p.takes("default"):
		return p.item()
	}
	p.want(":")
	return p.laid(&api.TCase{Mark: at, X: *x})
}

func (p *parser) jump() *api.Tree {
	j := api.TJump{Mark: p.mark(), Op: p.next().Text}
	if j.Op == "goto" {
		j.Name = p.name()
	}
	p.want(";")
	return p.laid(&j)
}

func (p *parser) returnStatement() *api.Tree {
	at := p.mark()
	p.want("return")
	return p.laid(&api.TReturn{Mark: at, X: *p.upTo(";")})
}
