package ctype_test

import (
	"slices"
	"testing"

	"alembic/api"
	"alembic/ctype"
)

// spoil writes over all that a type's lists hold, their spare room too.
func spoil(t api.Type) {
	kids := t.Kids[:cap(t.Kids)]
	for i := range kids {
		spoil(kids[i])
		kids[i] = api.Number{Size: 77}.Type()
	}
}

func spoilLayout(l api.Layout) {
	fields := l.Fields[:cap(l.Fields)]
	for i := range fields {
		spoil(fields[i].Type)
		fields[i] = api.Field{Name: "spoilt"}
	}
}

// some are types with lists in them.
func some() []api.Type {
	list := []api.Type{to(row(3, structOf("s"))), fun(to(char), to(to(long)), row(2, to(void))), char, row(2, to(fun(void, char)))}
	return append(list, deep(api.MaxDepth, char)...)
}

// P5.1: what is answered shares no memory with what was handed in.
func TestAnswersAreNew(t *testing.T) {
	for i, x := range some() {
		spoil(ctype.Promote(x))
		if want := some()[i]; !ctype.Same(x, want) {
			t.Errorf("%s became %s", ctype.Text(want), ctype.Text(x))
		}
	}
	fields := func() []api.Field { return members(to(row(3, char)), to(fun(void, char)), long) }
	given := fields()
	l := lay(t, "a", false, given)
	known := []api.Layout{l}
	found, _ := ctype.Find(known, "a")
	spoilLayout(found)
	if want := lay(t, "a", false, fields()); !sameLayout(known[0], want) {
		t.Errorf("%v, not %v", known[0], want)
	}
	spoilLayout(l)
	if !sameFields(given, fields()) {
		t.Errorf("%v, not %v", given, fields())
	}
}

// P5.1: no two lists of one answer share memory, though those of what was handed in do.
func TestListsAreApart(t *testing.T) {
	pointer := to(to(char))
	l := lay(t, "a", false, members(pointer, pointer))
	spoil(l.Fields[0].Type)
	if !ctype.Same(l.Fields[1].Type, to(to(char))) {
		t.Errorf("%v", l)
	}
	twice := ctype.Promote(fun(pointer, pointer))
	spoil(twice.Kids[0])
	if !ctype.Same(twice.Kids[1], to(to(char))) {
		t.Errorf("%v", twice)
	}
	first, _ := ctype.Ops(long, char)
	clear(first)
	checkOps(t, long, char, []int{api.OpInt, api.OpS8}, true)
}

// P5.1: no call changes what is handed in, nor its spare room.
func TestArgumentsStay(t *testing.T) {
	roomy := func(list []api.Field) []api.Field {
		return append(list, api.Field{Name: "spare", Off: 7}, api.Field{Name: "room", Off: 8})[:len(list)]
	}
	given := func() []api.Field { return roomy(members(char, row(2, to(char)), structOf("s"))) }
	known := func() []api.Layout { return append(records(t), api.Layout{Name: "spare"})[:6] }
	fields, layouts := given(), known()
	for _, union := range []bool{false, true} {
		lay(t, "r", union, fields, layouts...)
		ctype.Lay("r", union, fields, nil)
	}
	for _, f := range fields {
		for _, g := range fields {
			ctype.Same(f.Type, g.Type)
			ctype.Common(f.Type, g.Type)
			ctype.Ops(f.Type, g.Type)
		}
		ctype.Text(f.Type)
		ctype.Depth(f.Type)
		ctype.Size(f.Type, layouts)
		ctype.Chunk(f.Type)
		ctype.Kind(f.Type)
		ctype.Promote(f.Type)
	}
	ctype.Find(layouts, "s")
	if !sameFields(fields[:cap(fields)], given()[:cap(fields)]) {
		t.Errorf("%v", fields[:cap(fields)])
	}
	if !slices.EqualFunc(layouts[:7], known()[:7], sameLayout) {
		t.Errorf("%v", layouts[:7])
	}
}

// P5.1: layouts that Lay answers with an error are no records, and no call panics of types of no kind.
func TestOddArguments(t *testing.T) {
	wrong, _, _ := ctype.Lay("r", false, members(void), nil)
	known := []api.Layout{wrong}
	checkSize(t, structOf("r"), known, 0, 0)
	checkNoLay(t, false, members(char, structOf("r")), known, 1, api.ErrType)
	list := append(all(), api.Type{Kind: -1}, api.Type{Kind: 99, Kids: []api.Type{char}})
	for kind := range api.KFunction + 1 {
		list = append(list, api.Type{Kind: kind}, api.Type{Kind: kind, Size: 4, Len: 2, Flag: true, Name: "s", Kids: []api.Type{none, char, none}})
	}
	for _, x := range list {
		ctype.Size(x, records(t))
		ctype.Lay("r", true, members(x), append(records(t), wrong))
		ctype.Promote(x)
		if (ctype.Depth(x) == 0) != (x.View() == nil) || ctype.Text(x) == "" {
			t.Errorf("%v: %d, %q", x, ctype.Depth(x), ctype.Text(x))
		}
		for _, y := range list {
			if ctype.Same(x, y) != ctype.Same(y, x) {
				t.Errorf("Same of %v and %v", x, y)
			}
			ctype.Common(x, y)
			ctype.Ops(x, y)
		}
	}
}
