package ctype

import (
	"slices"

	"alembic/api"
	"alembic/mach"
)

// Find is the layout of a record.
func Find(known []api.Layout, name string) (api.Layout, bool) {
	i := position(known, name)
	if i < 0 {
		return api.Layout{}, false
	}
	found := known[i]
	found.Fields = slices.Clone(found.Fields)
	for i, f := range found.Fields {
		found.Fields[i].Type = copied(f.Type)
	}
	return found, true
}

// position is where the layout of a name stands; below 0, if there is none.
func position(known []api.Layout, name string) int {
	return slices.IndexFunc(known, func(l api.Layout) bool { return l.Name == name })
}

// Size is a complete type's size and alignment. Of one that isn't, both are 0; the alignment alone tells, since a record without members has the size 0.
func Size(t api.Type, known []api.Layout) (int, int) {
	switch x := t.View().(type) {
	case api.Array:
		return arraySize(x, known)
	case api.Record:
		i := position(known, x.Name)
		if i >= 0 && known[i].Union == x.Union {
			return known[i].Size, known[i].Align
		}
		return 0, 0
	}
	n := mach.Size(Chunk(t))
	return n, n
}

func arraySize(a api.Array, known []api.Layout) (int, int) {
	size, align := Size(a.Of, known)
	if align == 0 || a.Len < 1 {
		return 0, 0
	}
	// divided, since the product may be above all whole numbers
	if size > 0 && a.Len > api.MaxSize/size {
		return 0, 0
	}
	return a.Len * size, align
}

// Lay lays a record's members out.
func Lay(name string, union bool, fields []api.Field, known []api.Layout) (api.Layout, int, api.Errno) {
	l := api.Layout{Name: name, Union: union, Align: 1}
	names := map[string]struct{}{}
	for i, f := range fields {
		if _, twice := names[f.Name]; twice {
			return api.Layout{}, i, api.ErrName
		}
		names[f.Name] = struct{}{}
		size, align := Size(f.Type, known)
		if align == 0 {
			return api.Layout{}, i, api.ErrType
		}
		l = withMember(l, f, size, align)
	}
	l.Size = multiple(l.Size, l.Align)
	if l.Size > api.MaxSize {
		return api.Layout{}, -1, api.ErrLimit
	}
	return l, -1, api.OK
}

// withMember is a layout with one member more; Size is, till all are there, how far the members reach.
func withMember(l api.Layout, f api.Field, size, align int) api.Layout {
	off := 0
	if !l.Union {
		off = multiple(l.Size, align)
	}
	l.Fields = append(l.Fields, api.Field{Name: f.Name, Type: copied(f.Type), Off: off})
	l.Size = max(l.Size, off+size)
	l.Align = max(l.Align, align)
	return l
}

// multiple is the least multiple of an alignment that isn't below n.
func multiple(n, align int) int {
	return (n + align - 1) / align * align
}
