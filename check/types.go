package check

import (
	"alembic/api"
	"alembic/ctype"
)

func charType() api.Type { return api.Number{Size: 1}.Type() }

func intType() api.Type { return api.Number{Size: 4}.Type() }

func longType() api.Type { return api.Number{Size: 8}.Type() }

func unsignedLong() api.Type { return api.Number{Size: 8, Unsigned: true}.Type() }

func pointerTo(t api.Type) api.Type { return api.Pointer{To: t}.Type() }

func isScalar(t api.Type) bool { return ctype.Chunk(t) != 0 }

func isArithmetic(t api.Type) bool { return isScalar(t) && !isPointer(t) }

func isWhole(t api.Type) bool {
	_, ok := t.View().(api.Number)
	return ok
}

func isPointer(t api.Type) bool {
	_, ok := t.View().(api.Pointer)
	return ok
}

func isVoid(t api.Type) bool {
	_, ok := t.View().(api.Void)
	return ok
}

func isRecord(t api.Type) bool {
	_, ok := t.View().(api.Record)
	return ok
}

// pointee is what a pointer points to; none and false, if it's none.
func pointee(t api.Type) (api.Type, bool) {
	p, ok := t.View().(api.Pointer)
	return p.To, ok
}

func isVoidPointer(t api.Type) bool {
	to, ok := pointee(t)
	return ok && isVoid(to)
}

// sigOf is a function's signature, in memory of its own.
func sigOf(f api.Function) api.Sig {
	s := api.Sig{Result: ctype.Kind(f.Result)}
	for _, p := range f.Params {
		s.Params = append(s.Params, ctype.Kind(p))
	}
	return s
}
