package parse

import (
	"slices"
	"strings"

	"alembic/api"
)

// left is an operation that waits for its right part.
type left struct {
	api.Mark
	op string
	x  *api.Tree
}

// leftOf takes a sign, behind its left part.
func (p *parser) leftOf(x *api.Tree) left {
	return left{Mark: p.mark(), op: p.next().Text, x: x}
}

func (p *parser) binaryOf(l left, y *api.Tree) *api.Tree {
	return p.laid(&api.TBinary{Mark: l.Mark, Op: l.op, X: *l.x, Y: *y})
}

func (p *parser) assignOf(l left, y *api.Tree) *api.Tree {
	return p.laid(&api.TAssign{Mark: l.Mark, Op: l.op, X: *l.x, Y: *y})
}

// expr is expressions with commas between.
func (p *parser) expr() *api.Tree {
	x := p.assign()
	for p.sees(",") {
		l := p.leftOf(x)
		x = p.binaryOf(l, p.assign())
	}
	return x
}

// assign is an expression without a comma.
func (p *parser) assign() *api.Tree {
	var lefts []left
	x := p.cond()
	for p.sees("=", "+=", "-=", "*=", "/=", "%=", "&=", "|=", "^=", "<<=", ">>=") {
		lefts = append(lefts, p.leftOf(x))
		x = p.cond()
	}
	for _, l := range slices.Backward(lefts) {
		x = p.assignOf(l, x)
	}
	return x
}

func (p *parser) cond() *api.Tree {
	x := p.binary()
	if !p.sees("?") {
		return x
	}
	p.enter()
	defer p.leave()
	at := p.mark()
	p.want("?")
	y := p.expr()
	p.want(":")
	return p.laid(&api.TCond{Mark: at, X: *x, Y: *y, Z: *p.cond()})
}

// binary is operations of two, those of a tighter level being parts of those of a looser one.
func (p *parser) binary() *api.Tree {
	var lefts []left // from the loosest on
	x := p.unary()
	for {
		level := levelOf(p.now().Text)
		for len(lefts) > 0 && levelOf(lefts[len(lefts)-1].op) >= level {
			x = p.binaryOf(lefts[len(lefts)-1], x)
			lefts = lefts[:len(lefts)-1]
		}
		if level == 0 {
			return x
		}
		lefts = append(lefts, p.leftOf(x))
		x = p.unary()
	}
}

// levelOf is how tight an operation of two holds its parts; 0, if there is none of this sign.
func levelOf(sign string) int {
	switch sign {
	case "||":
		return 1
	case "&&":
		return 2
	case "|":
		return 3
	case "^":
		return 4
	case "&":
		return 5
	case "==", "!=":
		return 6
	case "<", "<=", ">", ">=":
		return 7
	case "<<", ">>":
		return 8
	case "+", "-":
		return 9
	case "*", "/", "%":
		return 10
	}
	return 0
}

func (p *parser) unary() *api.Tree {
	p.enter()
	defer p.leave()
	at := p.mark()
	switch {
	case p.sees("-", "~", "!", "*", "&", "++", "--"):
		return p.laid(&api.TUnary{Mark: at, Op: p.next().Text, X: *p.unary()})
	case p.sees("sizeof"):
		return p.sizeof()
	case p.seesType():
		return p.laid(&api.TCast{Mark: at, To: p.typeInside(), X: *p.unary()})
	}
	return p.post()
}

func (p *parser) sizeof() *api.Tree {
	at := p.mark()
	p.want("sizeof")
	if p.seesType() {
		return p.laid(&api.TSizeType{Mark: at, Of: p.typeInside()})
	}
	return p.laid(&api.TSizeOf{Mark: at, X: *p.unary()})
}

// seesType tells whether a parenthesis with a type stands next.
func (p *parser) seesType() bool {
	return p.sees("(") && isSpec(p.ahead(1))
}

// typeInside is the type that stands in parentheses.
func (p *parser) typeInside() api.Type {
	p.want("(")
	t := p.typeName()
	p.want(")")
	return t
}

// inside is the expression that stands in parentheses.
func (p *parser) inside() *api.Tree {
	p.want("(")
	x := p.expr()
	p.want(")")
	return x
}

func (p *parser) post() *api.Tree {
	x := p.first()
	for p.sees("[", "(", ".", "->", "++", "--") {
		x = p.behind(x)
	}
	return x
}

// behind is a tree with the one sign, and what belongs to it, that stands behind it.
func (p *parser) behind(x *api.Tree) *api.Tree {
	at := p.mark()
	switch op := p.next().Text; op {
	case "[":
		y := p.expr()
		p.want("]")
		return p.laid(&api.TIndex{Mark: at, X: *x, Y: *y})
	case "(":
		return p.laid(&api.TCall{Mark: at, F: *x, Args: p.args()})
	case ".", "->":
		return p.laid(&api.TMember{Mark: at, X: *x, Name: p.name(), Arrow: op == "->"})
	default:
		return p.laid(&api.TPost{Mark: at, Op: op, X: *x})
	}
}

// args are a call's arguments, behind its parenthesis.
func (p *parser) args() []api.Tree {
	var list []api.Tree
	if p.takes(")") {
		return nil
	}
	for range p.commas(")") {
		list = append(list, *p.assign())
	}
	return list
}

func (p *parser) first() *api.Tree {
	if p.sees("(") {
		return p.inside()
	}
	x := p.leaf(p.now())
	if x.None() {
		p.fail()
	}
	p.next()
	return x
}

// leaf is the tree of one token; none, if there is no such tree.
func (p *parser) leaf(t api.Token) *api.Tree {
	at := api.Mark{At: t.At}
	switch t.Kind {
	case api.TokName:
		return p.laid(&api.TName{Mark: at, Name: t.Text})
	case api.TokInt:
		return p.laid(&api.TNum{Mark: at, Bits: t.Bits, Suffix: suffix(t.Text)})
	case api.TokChar:
		return p.laid(&api.TNum{Mark: at, Bits: t.Bits})
	case api.TokFloat:
		return p.laid(&api.TFloat{Mark: at, Bits: t.Bits})
	case api.TokText:
		return p.laid(&api.TText{Mark: at, Data: t.Data})
	}
	return none()
}

// suffix tells which of the letters u and l stand in a number: neither is a digit of sixteen.
func suffix(number string) string {
	s := ""
	if strings.ContainsAny(number, "uU") {
		s += "u"
	}
	if strings.ContainsAny(number, "lL") {
		s += "l"
	}
	return s
}
