package parse_test

import (
	"regexp"
	"slices"
	"strings"

	"alembic/api"
)

// grammar is the language, by the document's grammar and the sentences about it: which declarations have parameters, a body, a beginning; and that a parenthesis behind sizeof that begins a type is sizeof's own.
const grammar = `
unit    = { record | global }
record  = ("struct" | "union") name "{" member { member } "}" ";"
member  = spec plain ";"
global  = "extern" spec { "*" } name "(" params ")" ";"
        | spec { "*" } name "(" params ")" ( ";" | body )
        | spec plain [ "=" init ] ";"
spec    = "void" | "double" | [ "signed" | "unsigned" ] ( "char" | "short" | "int" | "long" )
        | "signed" | "unsigned" | ( "struct" | "union" ) name
plain   = { "*" } ( name { "[" int "]" } | "(" "*" name { "[" int "]" } ")" "(" types ")" )
params  = [ "void" | param { "," param } ]
param   = spec { "*" } ( name | "(" "*" name ")" "(" types ")" )
types   = [ "void" | type { "," type } ]
type    = spec { "*" } [ "(" "*" ")" "(" types ")" ]
init    = assign | "{" init { "," init } "}"
body    = "{" { item } "}"
item    = name ":" | spec plain [ "=" init ] ";" | stmt
stmt    = ";" | expr ";" | body | "if" "(" expr ")" stmt [ "else" stmt ]
        | "while" "(" expr ")" stmt | "do" stmt "while" "(" expr ")" ";"
        | "for" "(" ( spec plain [ "=" init ] ";" | [ expr ] ";" ) [ expr ] ";" [ expr ] ")" stmt
        | "switch" "(" expr ")" "{" { "case" cond ":" | "default" ":" | item } "}"
        | "break" ";" | "continue" ";" | "goto" name ";" | "return" [ expr ] ";"
expr    = assign { "," assign }
assign  = cond [ ( "=" | "+=" | "-=" | "*=" | "/=" | "%=" | "&=" | "|=" | "^=" | "<<=" | ">>=" ) assign ]
cond    = binary [ "?" expr ":" cond ]
binary  = unary { sign unary }
sign    = "||" | "&&" | "|" | "^" | "&" | "==" | "!=" | "<" | "<=" | ">" | ">=" | "<<" | ">>" | "+" | "-" | "*" | "/" | "%"
unary   = "(" type ")" unary | other
other   = ( "-" | "~" | "!" | "*" | "&" | "++" | "--" ) unary | "sizeof" other | "sizeof" "(" type ")" | post
post    = first { "[" expr "]" | "(" [ assign { "," assign } ] ")" | "." name | "->" name | "++" | "--" }
first   = name | int | float | char | text | "(" expr ")"
`

// A symbol is a rule's number, or, below 0, a token's: -1 less where it stands among the words.
type symbol = int

// rules are a grammar as lists of symbols, several of them a rule.
type rules struct {
	words    []string // the tokens: signs and reserved words in quotes, else kinds
	names    map[string]symbol
	bodies   [][][]symbol
	nullable []bool
}

var piece = regexp.MustCompile(`"[^"]*"|[a-z]+|[=|{}()\[\]]`)

// readRules reads a grammar's text, the first rule being its beginning.
func readRules(text string) *rules {
	r := &rules{names: map[string]symbol{}}
	pieces := piece.FindAllString(text, -1)
	for i, p := range pieces {
		if p == "=" {
			r.names[pieces[i-1]] = r.add()
		}
	}
	for i := 0; i < len(pieces); {
		end := i + 2
		for end < len(pieces) && (end+1 == len(pieces) || pieces[end+1] != "=") {
			end++
		}
		rest := pieces[i+2 : end]
		r.bodies[r.names[pieces[i]]] = r.choices(&rest)
		i = end
	}
	for changed := true; changed; {
		changed = false
		for n, bodies := range r.bodies {
			if !r.nullable[n] && slices.ContainsFunc(bodies, r.isNullable) {
				r.nullable[n], changed = true, true
			}
		}
	}
	return r
}

func (r *rules) add(bodies ...[]symbol) symbol {
	r.bodies = append(r.bodies, bodies)
	r.nullable = append(r.nullable, false)
	return len(r.bodies) - 1
}

func (r *rules) isNullable(body []symbol) bool {
	return !slices.ContainsFunc(body, func(s symbol) bool { return s < 0 || !r.nullable[s] })
}

// choices reads bodies with strokes between, up to what closes them.
func (r *rules) choices(rest *[]string) [][]symbol {
	all := [][]symbol{nil}
	for len(*rest) > 0 {
		p := (*rest)[0]
		switch p {
		case "|":
			*rest = (*rest)[1:]
			all = append(all, nil)
			continue
		case ")", "]", "}":
			return all
		}
		*rest = (*rest)[1:]
		all[len(all)-1] = append(all[len(all)-1], r.symbol(p, rest))
	}
	return all
}

func (r *rules) symbol(p string, rest *[]string) symbol {
	if p == "(" || p == "[" || p == "{" {
		inner := r.choices(rest)
		*rest = (*rest)[1:]
		group := r.add(inner...)
		switch p {
		case "[":
			return r.add(nil, []symbol{group})
		case "{":
			many := r.add()
			r.bodies[many] = [][]symbol{nil, {many, group}}
			return many
		}
		return group
	}
	if n, ok := r.names[p]; ok {
		return n
	}
	return r.word(p)
}

// word is a token's symbol.
func (r *rules) word(p string) symbol {
	i := slices.Index(r.words, p)
	if i < 0 {
		r.words = append(r.words, p)
		i = len(r.words) - 1
	}
	return -1 - i
}

// wordOf is how a token stands in a grammar.
func wordOf(k api.Token) string {
	switch k.Kind {
	case api.TokName:
		return "name"
	case api.TokInt:
		return "int"
	case api.TokFloat:
		return "float"
	case api.TokChar:
		return "char"
	case api.TokText:
		return "text"
	}
	return `"` + k.Text + `"`
}

// item is a rule's body up to a dot, as it stands behind a token, begun behind an earlier one.
type item struct{ rule, body, dot, from int }

// chart is what can stand behind each token of a list (by Earley's method): the list goes on as long as there is something.
type chart struct {
	*rules
	sets [][]item
}

func newChart(r *rules) *chart {
	c := &chart{rules: r}
	var first []item
	for b := range r.bodies[0] {
		first = append(first, item{rule: 0, body: b})
	}
	c.close(first)
	return c
}

// close puts a set behind the others, with all that follows from it.
func (c *chart) close(set []item) {
	k := len(c.sets)
	c.sets = append(c.sets, set)
	seen := map[item]bool{}
	for _, x := range set {
		seen[x] = true
	}
	push := func(x item) {
		if !seen[x] {
			seen[x] = true
			c.sets[k] = append(c.sets[k], x)
		}
	}
	for i := 0; i < len(c.sets[k]); i++ {
		x := c.sets[k][i]
		body := c.bodies[x.rule][x.body]
		if x.dot == len(body) {
			for j := 0; j < len(c.sets[x.from]); j++ {
				y := c.sets[x.from][j]
				if s := c.bodies[y.rule][y.body]; y.dot < len(s) && s[y.dot] == x.rule {
					push(item{y.rule, y.body, y.dot + 1, y.from})
				}
			}
			continue
		}
		if s := body[x.dot]; s >= 0 {
			for b := range c.bodies[s] {
				push(item{s, b, 0, k})
			}
			if c.nullable[s] {
				push(item{x.rule, x.body, x.dot + 1, x.from})
			}
		}
	}
}

// push takes a token more; false, and nothing is changed, if none of this word can follow.
func (c *chart) push(word string) bool {
	w := slices.Index(c.words, word)
	var next []item
	for _, x := range c.sets[len(c.sets)-1] {
		if body := c.bodies[x.rule][x.body]; x.dot < len(body) && body[x.dot] == -1-w {
			next = append(next, item{x.rule, x.body, x.dot + 1, x.from})
		}
	}
	if w < 0 || len(next) == 0 {
		return false
	}
	c.close(next)
	return true
}

// pop takes the last token back.
func (c *chart) pop() { c.sets = c.sets[:len(c.sets)-1] }

// ends tells whether the tokens are a unit.
func (c *chart) ends() bool {
	return slices.ContainsFunc(c.sets[len(c.sets)-1], func(x item) bool {
		return x.rule == 0 && x.from == 0 && x.dot == len(c.bodies[0][x.body])
	})
}

// spell is a token's text by its word.
func spell(word string) string {
	switch word {
	case "name":
		return "x"
	case "int":
		return "1"
	case "float":
		return "1.5"
	case "char":
		return "'a'"
	case "text":
		return `"a"`
	}
	return strings.Trim(word, `"`)
}
