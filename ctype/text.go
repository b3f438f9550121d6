package ctype

import (
	"strconv"
	"strings"

	"alembic/api"
)

// unknown is how a type is written that is none.
const unknown = "?"

// Text is how a type is written.
func Text(t api.Type) string {
	var b strings.Builder
	write(&b, t)
	return b.String()
}

func write(b *strings.Builder, t api.Type) {
	switch x := t.View().(type) {
	case api.Void:
		b.WriteString("void")
	case api.Number:
		b.WriteString(numberText(x))
	case api.Float:
		b.WriteString("double")
	case api.Pointer:
		write(b, x.To)
		b.WriteByte('*')
	case api.Array:
		write(b, x.Of)
		b.WriteString("[" + strconv.Itoa(x.Len) + "]")
	case api.Record:
		b.WriteString(recordText(x))
	case api.Function:
		write(b, x.Result)
		writeParams(b, x.Params)
	default:
		b.WriteString(unknown)
	}
}

func writeParams(b *strings.Builder, params []api.Type) {
	b.WriteByte('(')
	for i, p := range params {
		if i > 0 {
			b.WriteString(", ")
		}
		write(b, p)
	}
	b.WriteByte(')')
}

func recordText(r api.Record) string {
	if r.Union {
		return "union " + r.Name
	}
	return "struct " + r.Name
}

func numberText(n api.Number) string {
	word := numberWord(n.Size)
	if n.Unsigned && word != unknown {
		return "unsigned " + word
	}
	return word
}

func numberWord(size int) string {
	switch size {
	case 1:
		return "char"
	case 2:
		return "short"
	case 4:
		return "int"
	case 8:
		return "long"
	}
	return unknown
}
