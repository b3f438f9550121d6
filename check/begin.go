package check

import (
	"strconv"

	"alembic/api"
	"alembic/ctype"
	"alembic/mach"
)

// text puts a string behind the unit's others, and is its name.
func (u *unit) text(data string) string {
	v := api.Var{Name: ".s" + strconv.Itoa(len(u.texts)), Size: len(data) + 1, Align: 1, Fixed: true}
	v.Init = letters(nil, data, charType(), 0)
	u.texts = append(u.texts, v)
	return v.Name
}

// letters puts the bytes of a string, and the 0 behind them, behind other data, as elements of a type of 1 byte.
func letters(data []api.Datum, s string, of api.Type, off int) []api.Datum {
	for i := range len(s) + 1 {
		b := byte(0)
		if i < len(s) {
			b = s[i]
		}
		v, _ := evaluated(mach.IntOf(int32(b)), intType(), of) // of whole numbers it has a meaning always
		data = append(data, api.Datum{At: off + i, Chunk: ctype.Chunk(of), V: v})
	}
	return data
}

// begin puts what a global of a type begins with, at an offset, behind other data.
func (u *unit) begin(data []api.Datum, t api.Tree, of api.Type, off int) []api.Datum {
	switch x := of.View().(type) {
	case api.Array:
		return u.beginArray(data, t, x, off)
	case api.Record:
		return u.beginRecord(data, t, x, off)
	}
	d, ok := u.datum(t, of)
	require(ok, t.At, api.ErrConst)
	d.At, d.Chunk = off, ctype.Chunk(of)
	return append(data, d)
}

func (u *unit) beginArray(data []api.Datum, t api.Tree, a api.Array, off int) []api.Datum {
	switch x := t.View().(type) {
	case api.TList:
		require(len(x.List) <= a.Len, t.At, api.ErrConst)
		size, _ := u.size(a.Of)
		for i, e := range x.List {
			data = u.begin(data, e, a.Of, off+i*size)
		}
		return data
	case api.TText:
		n, ok := a.Of.View().(api.Number)
		require(ok && n.Size == 1 && len(x.Data) < a.Len, t.At, api.ErrConst)
		return letters(data, x.Data, a.Of, off)
	}
	fail(t.At, api.ErrConst)
	return nil
}

func (u *unit) beginRecord(data []api.Datum, t api.Tree, r api.Record, off int) []api.Datum {
	fields := u.records[r.Name].Fields
	if r.Union {
		fields = fields[:1]
	}
	list, ok := t.View().(api.TList)
	require(ok && len(list.List) <= len(fields), t.At, api.ErrConst)
	for i, e := range list.List {
		data = u.begin(data, e, fields[i].Type, off+fields[i].Off)
	}
	return data
}

// datum is what a scalar begins with, if it can.
func (u *unit) datum(t api.Tree, of api.Type) (api.Datum, bool) {
	if to, ok := pointee(of); ok {
		return u.address(t, to)
	}
	v, from, ok := constantOf(t)
	if ok {
		v, ok = evaluated(v, from, of)
	}
	return api.Datum{V: v}, ok
}

// address is what a pointer to a type begins with, if it can.
func (u *unit) address(t api.Tree, to api.Type) (api.Datum, bool) {
	switch x := t.View().(type) {
	case api.TNum:
		return api.Datum{V: mach.LongOf(0)}, x.Bits == 0
	case api.TText:
		if ctype.Same(to, charType()) {
			return api.Datum{Sym: u.text(x.Data)}, true
		}
	case api.TName:
		return api.Datum{Sym: x.Name}, u.namesPointer(x.Name, to)
	case api.TUnary:
		n, ok := x.X.View().(api.TName)
		return api.Datum{Sym: n.Name}, ok && x.Op == "&" && u.standsAs(n.Name, to)
	}
	return api.Datum{}, false
}

// namesPointer tells whether a name alone is a pointer to a type: that of an array of it, or of a function.
func (u *unit) namesPointer(name string, to api.Type) bool {
	switch x := u.names[name].what.(type) {
	case function:
		return ctype.Same(to, x.t)
	case place:
		a, ok := x.t.View().(api.Array)
		return ok && ctype.Same(to, a.Of)
	}
	return false
}

// standsAs tells whether the address of what has a name is a pointer to a type, or a variable's may be one.
func (u *unit) standsAs(name string, to api.Type) bool {
	switch x := u.names[name].what.(type) {
	case function:
		return ctype.Same(to, x.t)
	case place:
		return ctype.Same(to, x.t) || isVoid(to)
	}
	return false
}
