package parse

import (
	"iter"
	"slices"

	"alembic/api"
)

// maxNested is how many parts may stand in one another: twice what the document promises anything of (a parenthesis and what it holds count one each), and so few that the stack of the calls holds them.
const maxNested = 1 << 17

// parser goes through a text's tokens.
type parser struct {
	tokens []api.Token // those that are still to come, the end at last
	unit   api.Mark    // where the record or global begins that is gone through
	great  bool        // whether there is a type above a limit in it
	nested int         // how many parts are gone through that stand in one another
}

// units cuts the tokens into the trees of the text's records and globals, and tells of each whether it keeps to the limits.
func (p *parser) units() iter.Seq2[api.Tree, bool] {
	return func(yield func(t api.Tree, fits bool) bool) {
		for p.now().Kind != api.TokEnd {
			p.unit, p.great = p.mark(), false
			t := *p.global()
			if !yield(t, !p.great && Depth(t) <= api.MaxDepth) {
				return
			}
		}
	}
}

// commas cuts a list into the parts between its commas, the caller taking each part, up to the sign that ends it, which is taken, too.
func (p *parser) commas(end string) func(yield func() bool) {
	return func(yield func() bool) {
		for yield() && p.want(",", end).Text != end {
		}
	}
}

// until goes on, the caller taking part after part, up to the sign that ends them, which is taken, too.
func (p *parser) until(end string) func(yield func() bool) {
	return func(yield func() bool) {
		for !p.takes(end) && yield() {
		}
	}
}

func (p *parser) now() api.Token { return p.tokens[0] }

// ahead is the token that stands n places behind the next one, or the end.
func (p *parser) ahead(n int) api.Token {
	return p.tokens[min(n, len(p.tokens)-1)]
}

func (p *parser) mark() api.Mark { return api.Mark{At: p.now().At} }

func (p *parser) next() api.Token {
	t := p.now()
	p.tokens = p.tokens[1:]
	return t
}

// sees tells whether the next token is one of some words and signs. No token of another kind has a text like theirs.
func (p *parser) sees(words ...string) bool {
	return slices.Contains(words, p.now().Text)
}

// takes takes the next token, if it is one of some words and signs.
func (p *parser) takes(words ...string) bool {
	if !p.sees(words...) {
		return false
	}
	p.next()
	return true
}

// want takes the next token, which has to be one of some words and signs.
func (p *parser) want(words ...string) api.Token {
	if !p.sees(words...) {
		p.fail()
	}
	return p.next()
}

// wantKind takes the next token, which has to be of a kind.
func (p *parser) wantKind(kind int) api.Token {
	if p.now().Kind != kind {
		p.fail()
	}
	return p.next()
}

func (p *parser) name() string { return p.wantKind(api.TokName).Text }

// fail unwinds all: with the next token nothing can go on.
func (p *parser) fail() {
	panic(fault{Mark: p.mark(), errno: api.ErrSyntax})
}

// enter begins a part that may stand in others like it.
func (p *parser) enter() {
	p.nested++
	if p.nested > maxNested {
		panic(fault{Mark: p.unit, errno: api.ErrLimit})
	}
}

// leave ends what enter began.
func (p *parser) leave() { p.nested-- }

// laid is the tree of a form. Both are told by their addresses: they are too great for the frames of calls that may stand deep in one another.
func (p *parser) laid(form interface{ Tree() api.Tree }) *api.Tree {
	t := form.Tree()
	p.great = p.great || slices.ContainsFunc(typesOf(t), isGreat)
	return &t
}

// none is no tree.
func none() *api.Tree { return &api.Tree{} }
