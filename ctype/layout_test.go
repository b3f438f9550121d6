package ctype_test

import (
	"math"
	"slices"
	"strconv"
	"testing"

	"alembic/api"
	"alembic/ctype"
)

func member(name string, t api.Type) api.Field { return api.Field{Name: name, Type: t} }

// members are members of these types, named m0, m1, ..
func members(types ...api.Type) []api.Field {
	var list []api.Field
	for i, t := range types {
		list = append(list, member("m"+strconv.Itoa(i), t))
	}
	return list
}

// lay is a layout that must come out.
func lay(t *testing.T, name string, union bool, fields []api.Field, known ...api.Layout) api.Layout {
	t.Helper()
	l, at, errno := ctype.Lay(name, union, fields, known)
	if errno != api.OK || at != -1 {
		t.Fatalf("Lay(%q, %v, %v): error %d at %d", name, union, fields, errno, at)
	}
	return l
}

func sameFields(a, b []api.Field) bool {
	return slices.EqualFunc(a, b, func(x, y api.Field) bool {
		return x.Name == y.Name && x.Off == y.Off && ctype.Same(x.Type, y.Type)
	})
}

func sameLayout(a, b api.Layout) bool {
	return a.Name == b.Name && a.Union == b.Union && a.Size == b.Size && a.Align == b.Align && sameFields(a.Fields, b.Fields)
}

func checkSize(t *testing.T, x api.Type, known []api.Layout, size, align int) {
	t.Helper()
	if s, a := ctype.Size(x, known); s != size || a != align {
		t.Errorf("Size of %s: %d, %d, not %d, %d", ctype.Text(x), s, a, size, align)
	}
}

func checkNoLay(t *testing.T, union bool, fields []api.Field, known []api.Layout, wantAt int, want api.Errno) {
	t.Helper()
	l, at, errno := ctype.Lay("r", union, fields, known)
	if at != wantAt || errno != want || !sameLayout(l, api.Layout{}) {
		t.Errorf("Lay of %v: %v, error %d at %d, not %d at %d", fields, l, errno, at, want, wantAt)
	}
}

// records are known ones: s of 16 bytes, u of 8, the empty ones e and v, odd of 3, big of MaxSize.
func records(t *testing.T) []api.Layout {
	return []api.Layout{
		lay(t, "s", false, members(char, int32s, double)),
		lay(t, "u", true, members(char, int32s, double)),
		lay(t, "e", false, nil),
		lay(t, "v", true, nil),
		lay(t, "odd", false, members(row(3, uchar))),
		lay(t, "big", false, members(row(api.MaxSize-8, char), long)),
	}
}

// P5.1: sizes of what isn't made of records.
func TestSize(t *testing.T) {
	for i, x := range numbers() {
		n := 1 << (i / 2)
		checkSize(t, x, nil, n, n)
		checkSize(t, row(5, x), nil, 5*n, n)
		checkSize(t, row(5, row(7, x)), nil, 35*n, n)
	}
	checkSize(t, double, nil, 8, 8)
	checkSize(t, row(3, double), nil, 24, 8)
	for _, x := range pointers() {
		checkSize(t, x, nil, 8, 8)
		checkSize(t, row(2, x), nil, 16, 8)
	}
}

// P5.1: types that aren't complete, and arrays of them.
func TestNoSize(t *testing.T) {
	list := append(oddNumbers(), none, void, fun(void), fun(int32s, char), fun(none), structOf("s"), unionOf("s"), structOf(""),
		row(0, char), row(-1, char), row(math.MinInt, long), row(0, row(1, char)), row(2, row(0, char)), row(1, none), row(1, void), row(4, whole(3)), row(1, fun(int32s)))
	for _, x := range list {
		checkSize(t, x, nil, 0, 0)
		checkSize(t, row(1, x), nil, 0, 0)
		checkSize(t, row(1, row(2, x)), nil, 0, 0)
		checkSize(t, to(x), nil, 8, 8)
	}
}

// P5.1: arrays of at most MaxSize bytes are complete, greater ones aren't, however great.
func TestSizeAtTheLimit(t *testing.T) {
	for i, x := range numbers() {
		n := 1 << (i / 2)
		most := api.MaxSize / n
		checkSize(t, row(most, x), nil, api.MaxSize, n)
		checkSize(t, row(most/2, row(2, x)), nil, api.MaxSize, n)
		checkSize(t, row(most-1, x), nil, api.MaxSize-n, n)
		for _, tooMany := range []int{most + 1, 2 * most, 1 << 32, 1 << 61, 1 << 62, 1<<62 + 1, math.MaxInt, math.MaxInt/n + 1} {
			if tooMany < 0 {
				continue
			}
			checkSize(t, row(tooMany, x), nil, 0, 0)
			checkSize(t, row(1, row(tooMany, x)), nil, 0, 0)
			checkSize(t, row(tooMany, row(1, x)), nil, 0, 0)
		}
		checkSize(t, row(most/2+1, row(2, x)), nil, 0, 0)
	}
	checkSize(t, row(api.MaxSize/3, row(3, char)), nil, api.MaxSize-1, 1)
	checkSize(t, row(api.MaxSize/3+1, row(3, char)), nil, 0, 0)
}

// P5.1: records, known and not, of their own union alone.
func TestSizeOfRecords(t *testing.T) {
	known := records(t)
	for _, x := range []struct {
		t           api.Type
		size, align int
	}{
		{structOf("s"), 16, 8}, {unionOf("u"), 8, 8}, {structOf("e"), 0, 1}, {unionOf("v"), 0, 1}, {structOf("odd"), 3, 1}, {structOf("big"), api.MaxSize, 8},
		{unionOf("s"), 0, 0}, {structOf("u"), 0, 0}, {unionOf("e"), 0, 0}, {structOf("v"), 0, 0}, {structOf("S"), 0, 0}, {structOf(""), 0, 0}, {structOf("struct s"), 0, 0},
		{row(3, structOf("s")), 48, 8}, {row(3, structOf("odd")), 9, 1}, {row(2, row(2, unionOf("u"))), 32, 8}, {row(3, unionOf("s")), 0, 0},
		{row(api.MaxSize/16, structOf("s")), api.MaxSize, 8}, {row(api.MaxSize/16+1, structOf("s")), 0, 0}, {row(1, structOf("big")), api.MaxSize, 8}, {row(2, structOf("big")), 0, 0},
		{row(1, structOf("e")), 0, 1}, {row(api.MaxSize+1, structOf("e")), 0, 1}, {row(math.MaxInt, unionOf("v")), 0, 1}, {row(0, structOf("e")), 0, 0}, {row(-1, structOf("e")), 0, 0}, {row(math.MaxInt, row(math.MaxInt, structOf("e"))), 0, 1},
	} {
		checkSize(t, x.t, known, x.size, x.align)
	}
}

// P5.1: of a name the first layout counts.
func TestFirstOfAName(t *testing.T) {
	first, second := lay(t, "s", false, members(char)), lay(t, "s", false, members(long, long))
	other := lay(t, "s", true, members(short))
	for _, x := range []struct {
		known []api.Layout
		want  api.Layout
	}{
		{[]api.Layout{first, second, other}, first}, {[]api.Layout{second, first}, second}, {[]api.Layout{other, first}, other}, {[]api.Layout{lay(t, "r", false, nil), second}, second},
	} {
		got, ok := ctype.Find(x.known, "s")
		if !ok || !sameLayout(got, x.want) {
			t.Errorf("Find in %v: %v, %v", x.known, got, ok)
		}
		checkSize(t, api.Record{Name: "s", Union: x.want.Union}.Type(), x.known, x.want.Size, x.want.Align)
		checkSize(t, api.Record{Name: "s", Union: !x.want.Union}.Type(), x.known, 0, 0)
	}
}

// P5.1: Find tells the layout of a name, and none of others.
func TestFind(t *testing.T) {
	known := records(t)
	for _, l := range known {
		if got, ok := ctype.Find(known, l.Name); !ok || !sameLayout(got, l) {
			t.Errorf("Find(%q): %v, %v", l.Name, got, ok)
		}
	}
	for _, name := range []string{"", "x", "S", "s ", "bi", "bigg"} {
		for _, list := range [][]api.Layout{known, nil, {}} {
			if got, ok := ctype.Find(list, name); ok || !sameLayout(got, api.Layout{}) {
				t.Errorf("Find(%q): %v, %v", name, got, ok)
			}
		}
	}
}

// P5.1: layouts whose answers are plain.
func TestLay(t *testing.T) {
	known := records(t)
	for _, x := range []struct {
		types       []api.Type
		offs        []int
		size, align int
		unionSize   int
	}{
		{nil, nil, 0, 1, 0},
		{[]api.Type{char}, []int{0}, 1, 1, 1},
		{[]api.Type{char, int32s, double}, []int{0, 4, 8}, 16, 8, 8},
		{[]api.Type{double, int32s, char}, []int{0, 8, 12}, 16, 8, 8},
		{[]api.Type{char, uchar, short, char, ushort, char}, []int{0, 1, 2, 4, 6, 8}, 10, 2, 2},
		{[]api.Type{uint32, char}, []int{0, 4}, 8, 4, 4},
		{[]api.Type{char, to(none)}, []int{0, 8}, 16, 8, 8},
		{[]api.Type{char, row(3, short), char}, []int{0, 2, 8}, 10, 2, 6},
		{[]api.Type{row(5, char), int32s}, []int{0, 8}, 12, 4, 8},
		{[]api.Type{row(9, char), row(1, long)}, []int{0, 16}, 24, 8, 16},
		{[]api.Type{char, structOf("s"), char, unionOf("u"), char}, []int{0, 8, 24, 32, 40}, 48, 8, 16},
		{[]api.Type{structOf("odd"), structOf("odd"), short}, []int{0, 3, 6}, 8, 2, 4},
		{[]api.Type{row(3, structOf("odd")), int32s}, []int{0, 12}, 16, 4, 12},
		{[]api.Type{structOf("e"), unionOf("v"), char, structOf("e"), int32s, structOf("e")}, []int{0, 0, 0, 1, 4, 8}, 8, 4, 4},
		{[]api.Type{structOf("e")}, []int{0}, 0, 1, 0},
		{[]api.Type{char, row(math.MaxInt, structOf("e")), char}, []int{0, 1, 1}, 2, 1, 1},
	} {
		want := api.Layout{Name: "r", Fields: members(x.types...), Size: x.size, Align: x.align}
		for i, off := range x.offs {
			want.Fields[i].Off = off
		}
		if got := lay(t, "r", false, members(x.types...), known...); !sameLayout(got, want) {
			t.Errorf("struct of %v: %v, not %v", x.types, got, want)
		}
		want = api.Layout{Name: "r", Union: true, Fields: members(x.types...), Size: x.unionSize, Align: x.align}
		if got := lay(t, "r", true, members(x.types...), known...); !sameLayout(got, want) {
			t.Errorf("union of %v: %v, not %v", x.types, got, want)
		}
	}
}

// P5.1: where the members said that they stand plays no part, nor does what the record is called.
func TestLayForgetsOffsets(t *testing.T) {
	fields := []api.Field{{Name: "a", Type: char, Off: 99}, {Name: "b", Type: long, Off: -3}, {Name: "", Type: char, Off: math.MaxInt}}
	for _, name := range []string{"r", "", "a", "s"} {
		want := api.Layout{Name: name, Fields: []api.Field{{Name: "a", Type: char}, {Name: "b", Type: long, Off: 8}, {Name: "", Type: char, Off: 16}}, Size: 24, Align: 8}
		if got := lay(t, name, false, fields, records(t)...); !sameLayout(got, want) {
			t.Errorf("%v, not %v", got, want)
		}
		want = api.Layout{Name: name, Union: true, Fields: []api.Field{{Name: "a", Type: char}, {Name: "b", Type: long}, {Name: "", Type: char}}, Size: 8, Align: 8}
		if got := lay(t, name, true, fields, records(t)...); !sameLayout(got, want) {
			t.Errorf("%v, not %v", got, want)
		}
	}
}

// P5.1: the first member that is wrong, and why: its name ahead of its type.
func TestNoLay(t *testing.T) {
	known := records(t)
	a, b, again, bad := member("a", char), member("b", long), member("a", long), member("c", void)
	for _, x := range []struct {
		fields []api.Field
		at     int
		errno  api.Errno
	}{
		{[]api.Field{a, again}, 1, api.ErrName},
		{[]api.Field{a, b, a}, 2, api.ErrName},
		{[]api.Field{a, b, member("b", void), again}, 2, api.ErrName},
		{[]api.Field{a, member("a", void)}, 1, api.ErrName},
		{[]api.Field{member("", char), member("", char)}, 1, api.ErrName},
		{[]api.Field{bad}, 0, api.ErrType},
		{[]api.Field{bad, a, again}, 0, api.ErrType},
		{[]api.Field{a, again, bad}, 1, api.ErrName},
		{[]api.Field{a, b, bad, bad}, 2, api.ErrType},
		{[]api.Field{member("r", structOf("r"))}, 0, api.ErrType},
		{[]api.Field{a, member("s", structOf("u"))}, 1, api.ErrType},
		{[]api.Field{a, member("n", none)}, 1, api.ErrType},
		{[]api.Field{a, member("f", fun(void))}, 1, api.ErrType},
		{[]api.Field{a, member("z", row(0, char))}, 1, api.ErrType},
		{[]api.Field{member("z", row(1, none)), a}, 0, api.ErrType},
		{[]api.Field{member("z", row(api.MaxSize+1, char)), a}, 0, api.ErrType},
	} {
		for _, union := range []bool{false, true} {
			checkNoLay(t, union, x.fields, known, x.at, x.errno)
		}
	}
	for _, x := range oddNumbers() {
		checkNoLay(t, false, members(char, x, char), known, 1, api.ErrType)
		checkNoLay(t, true, members(x), known, 0, api.ErrType)
	}
}

// P5.1: sizes at MaxSize and above; that is looked at behind all members.
func TestLayAtTheLimit(t *testing.T) {
	known := records(t)
	most := row(api.MaxSize, char)
	for _, x := range []struct {
		types     []api.Type
		size      int // of the struct; 0: too great
		unionSize int
	}{
		{[]api.Type{most}, api.MaxSize, api.MaxSize},
		{[]api.Type{most, char}, 0, api.MaxSize},
		{[]api.Type{char, most}, 0, api.MaxSize},
		{[]api.Type{row(api.MaxSize-1, char), char}, api.MaxSize, api.MaxSize - 1},
		{[]api.Type{row(api.MaxSize-1, char), short}, 0, api.MaxSize},
		{[]api.Type{row(api.MaxSize-7, char), char}, api.MaxSize - 6, api.MaxSize - 7},
		{[]api.Type{long, row(api.MaxSize-8, char)}, api.MaxSize, api.MaxSize - 8},
		{[]api.Type{long, row(api.MaxSize-15, char)}, api.MaxSize, api.MaxSize - 8},
		{[]api.Type{long, row(api.MaxSize-7, char)}, 0, api.MaxSize},
		{[]api.Type{structOf("big"), structOf("e"), unionOf("v")}, api.MaxSize, api.MaxSize},
		{[]api.Type{structOf("big"), structOf("big")}, 0, api.MaxSize},
		{slices.Repeat([]api.Type{most}, 300), 0, api.MaxSize},
	} {
		if x.size == 0 {
			checkNoLay(t, false, members(x.types...), known, -1, api.ErrLimit)
		} else if l := lay(t, "r", false, members(x.types...), known...); l.Size != x.size {
			t.Errorf("struct of %v: size %d, not %d", x.types, l.Size, x.size)
		}
		if l := lay(t, "r", true, members(x.types...), known...); l.Size != x.unionSize {
			t.Errorf("union of %v: size %d, not %d", x.types, l.Size, x.unionSize)
		}
	}
	checkNoLay(t, false, members(most, most, void), known, 2, api.ErrType)
	checkNoLay(t, false, append(members(most, most), member("m0", char)), known, 2, api.ErrName)
}

// scattered are types of a rule that scatters, of known records among them, and where the rule stands then.
func scattered(n uint64, names []api.Type) (api.Type, uint64) {
	n = n*6364136223846793005 + 1442695040888963407
	choices := append(numbers(), double, to(void), to(structOf("none")))
	choices = append(choices, names...)
	x := choices[n>>33%uint64(len(choices))]
	switch n >> 61 {
	case 0:
		x = row(1+int(n>>50%7), x)
	case 1:
		x = row(1+int(n>>50%3), row(1+int(n>>40%5), x))
	}
	return x, n
}

// P5.1, P5.2: members follow one another without meeting, as tightly as their alignments let them, and sizes are multiples of alignments.
func TestLaidMembers(t *testing.T) {
	n := uint64(5)
	var known []api.Layout
	var names []api.Type
	for i := range 400 {
		var types []api.Type
		for range i % 9 {
			var x api.Type
			x, n = scattered(n, names)
			types = append(types, x)
		}
		name, union := "r"+strconv.Itoa(i), n>>37%3 == 0
		l, at, errno := ctype.Lay(name, union, members(types...), known)
		if errno == api.ErrLimit && at == -1 {
			continue
		}
		if errno != api.OK || at != -1 || l.Name != name || l.Union != union || len(l.Fields) != len(types) {
			t.Fatalf("Lay of %v: %v, error %d at %d", types, l, errno, at)
		}
		checkLaid(t, l, types, known)
		known = append(known, l)
		record := api.Record{Name: name, Union: union}.Type()
		checkSize(t, record, known, l.Size, l.Align)
		if l.Size < 200 {
			names = append(names, record)
		}
	}
	if len(known) < 300 {
		t.Errorf("%d records alone", len(known))
	}
}

func checkLaid(t *testing.T, l api.Layout, types []api.Type, known []api.Layout) {
	t.Helper()
	end, reach, widest := 0, 0, 1
	for i, f := range l.Fields {
		size, align := ctype.Size(types[i], known)
		if !ctype.Same(f.Type, types[i]) || f.Name != "m"+strconv.Itoa(i) {
			t.Errorf("member %d of %v is %v", i, types, f)
		}
		if align < 1 || size%align != 0 || f.Off%align != 0 || f.Off < end || f.Off-end >= align {
			t.Errorf("member %d of %v stands at %d, behind %d", i, types, f.Off, end)
		}
		reach, widest = max(reach, f.Off+size), max(widest, align)
		if !l.Union {
			end = f.Off + size
		}
	}
	if l.Align != widest || l.Size%l.Align != 0 || l.Size < reach || l.Size-reach >= l.Align {
		t.Errorf("%v: size %d, alignment %d", types, l.Size, l.Align)
	}
}
