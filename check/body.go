package check

import (
	"slices"

	"alembic/api"
	"alembic/ctype"
)

// maxRoom is how many bytes a function's locals may have together, each rounded up.
const maxRoom = 1 << 23

// body is what is known of a function while its body is gone through.
type body struct {
	unit            *unit
	result          api.Type
	locals          []api.Slot
	scopes          []map[string]place // the innermost at last
	labels          map[string]struct{}
	loops, switches int // how many are around
}

// bodied is a function that has a body.
func (u *unit) bodied(f api.TFunc) api.Func {
	b := body{unit: u, result: f.Type.Result, labels: map[string]struct{}{}}
	b.findLabels(f.Body)
	b.open()
	core := api.Func{Name: f.Name, Sig: sigOf(f.Type)}
	for i, p := range f.Type.Params {
		core.Params = append(core.Params, len(b.locals))
		b.local(f.At, f.Params[i], p)
	}
	core.Body = b.list(f.Body.TBlock().List)
	core.Locals = b.locals
	require(room(b.locals) <= maxRoom, f.At, api.ErrLimit)
	return core
}

func room(locals []api.Slot) int {
	n := 0
	for _, l := range locals {
		n += (l.Size + 7) / 8 * 8
	}
	return n
}

// findLabels keeps the labels of a tree; they may be gone to from ahead of them.
func (b *body) findLabels(t api.Tree) {
	if l, ok := t.View().(api.TLabel); ok {
		_, twice := b.labels[l.Name]
		require(!twice, l.At, api.ErrName)
		b.labels[l.Name] = struct{}{}
	}
	for _, k := range t.Kids {
		b.findLabels(k)
	}
}

// open begins a scope within those around.
func (b *body) open() { b.scopes = append(b.scopes, map[string]place{}) }

// shut ends the innermost scope.
func (b *body) shut() { b.scopes = b.scopes[:len(b.scopes)-1] }

// local declares a local in the innermost scope.
func (b *body) local(at api.Place, name string, t api.Type) place {
	scope := b.scopes[len(b.scopes)-1]
	_, twice := scope[name]
	require(!twice, at, api.ErrName)
	size, align := b.unit.size(t)
	require(align != 0, at, api.ErrType)
	p := place{addr: api.Local{N: len(b.locals)}.Expr(), t: t}
	b.locals = append(b.locals, api.Slot{Size: size, Align: align, Chunk: ctype.Chunk(t)})
	scope[name] = p
	return p
}

// named is the innermost thing of a name.
func (b *body) named(n api.TName) result {
	for _, scope := range slices.Backward(b.scopes) {
		if p, ok := scope[n.Name]; ok {
			return p
		}
	}
	g, ok := b.unit.names[n.Name]
	require(ok, n.At, api.ErrName)
	return g.what
}
