package check

import (
	"math"
	"strings"

	"alembic/api"
	"alembic/ctype"
	"alembic/mach"
)

// constantOf is the value and the type of a number, with a minus ahead or without.
func constantOf(t api.Tree) (api.Value, api.Type, bool) {
	u, ok := t.View().(api.TUnary)
	if !ok || u.Op != "-" {
		return literal(t)
	}
	v, of, ok := literal(u.X)
	if !ok {
		return api.Value{}, api.Type{}, false
	}
	v, _ = mach.Eval1(operation1("-", of), v) // turning a sign has a meaning always
	return v, of, true
}

// literal is the value and the type of a number as it stands in the text.
func literal(t api.Tree) (api.Value, api.Type, bool) {
	switch x := t.View().(type) {
	case api.TNum:
		of := numberType(x)
		if of.Size == 4 {
			return mach.IntOf(int32(x.Bits)), of.Type(), true
		}
		return mach.LongOf(int64(x.Bits)), of.Type(), true
	case api.TFloat:
		return mach.DoubleOf(x.Bits), api.Float{}.Type(), true
	}
	return api.Value{}, api.Type{}, false
}

// numberType is the first type that has a number, of those that its letters allow.
func numberType(n api.TNum) api.Number {
	u, l := strings.Contains(n.Suffix, "u"), strings.Contains(n.Suffix, "l")
	switch {
	case !u && !l && n.Bits <= math.MaxInt32:
		return api.Number{Size: 4}
	case u && !l && n.Bits <= math.MaxUint32:
		return api.Number{Size: 4, Unsigned: true}
	case !u && n.Bits <= math.MaxInt64:
		return api.Number{Size: 8}
	}
	return api.Number{Size: 8, Unsigned: true}
}

// evaluated is a value of one arithmetic type as one of another, if that has a meaning.
func evaluated(v api.Value, from, to api.Type) (api.Value, bool) {
	ops, ok := ctype.Ops(from, to)
	for _, op := range ops {
		if v, ok = mach.Eval1(op, v); !ok {
			break
		}
	}
	return v, ok
}

// isZero tells whether a tree is a number 0 as it stands in the text.
func isZero(t api.Tree) bool {
	n, ok := t.View().(api.TNum)
	return ok && n.Bits == 0
}
