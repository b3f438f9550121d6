package ctype_test

import (
	"math"
	"strings"
	"testing"

	"alembic/api"
	"alembic/ctype"
)

// none stands in the tables for the type that is none.
var none = api.Type{}

var (
	void   = api.Void{}.Type()
	char   = whole(1)
	uchar  = bare(1)
	short  = whole(2)
	ushort = bare(2)
	int32s = whole(4)
	uint32 = bare(4)
	long   = whole(8)
	ulong  = bare(8)
	double = api.Float{}.Type()
)

func whole(size int) api.Type                { return api.Number{Size: size}.Type() }
func bare(size int) api.Type                 { return api.Number{Size: size, Unsigned: true}.Type() }
func to(t api.Type) api.Type                 { return api.Pointer{To: t}.Type() }
func row(n int, t api.Type) api.Type         { return api.Array{Of: t, Len: n}.Type() }
func structOf(name string) api.Type          { return api.Record{Name: name}.Type() }
func unionOf(name string) api.Type           { return api.Record{Name: name, Union: true}.Type() }
func fun(r api.Type, p ...api.Type) api.Type { return api.Function{Result: r, Params: p}.Type() }

// numbers are the Numbers that are scalars.
func numbers() []api.Type {
	return []api.Type{char, uchar, short, ushort, int32s, uint32, long, ulong}
}

// oddNumbers are Numbers of other sizes.
func oddNumbers() []api.Type {
	var list []api.Type
	for _, size := range []int{0, 3, 5, 6, 7, 9, 16, 32, 64, -1, -4, -8, math.MaxInt, math.MinInt} {
		list = append(list, whole(size), bare(size))
	}
	return list
}

// pointers are some pointers, one to none among them.
func pointers() []api.Type {
	return []api.Type{to(none), to(void), to(char), to(uchar), to(to(char)), to(row(3, int32s)), to(row(0, none)), to(structOf("s")), to(whole(3)), to(fun(int32s, char)), to(fun(none))}
}

// others are types that are no scalars, but Numbers.
func others() []api.Type {
	return []api.Type{none, void, row(1, int32s), row(3, char), row(0, double), row(-1, long), row(2, none), row(2, to(char)), row(1, void), structOf("s"), structOf(""), unionOf("s"), unionOf("u"), fun(void), fun(int32s, int32s), fun(none), fun(double, none)}
}

// all are types of every form, none of them twice.
func all() []api.Type {
	list := append(numbers(), double)
	list = append(list, oddNumbers()...)
	list = append(list, pointers()...)
	return append(list, others()...)
}

// deep are types that nest n deep, through each of the forms that are made of others and through all of them, a type that is made of no other one innermost.
func deep(n int, t api.Type) []api.Type {
	list := []api.Type{t, t, t, t, t}
	for i := range n - 1 {
		list[0] = to(list[0])
		list[1] = row(1, list[1])
		list[2] = fun(list[2], char, none)
		list[3] = fun(void, char, list[3], none)
		list[4] = []func(api.Type) api.Type{
			to,
			func(t api.Type) api.Type { return row(2, t) },
			func(t api.Type) api.Type { return fun(t, to(char)) },
			func(t api.Type) api.Type { return fun(int32s, t) },
		}[i%4](list[4])
	}
	return list
}

// P5.1: a type is the same as itself, made anew, and as no other one.
func TestSame(t *testing.T) {
	again := all()
	for i, a := range all() {
		for j, b := range again {
			if got := ctype.Same(a, b); got != (i == j) {
				t.Errorf("Same(%s, %s): %v", ctype.Text(a), ctype.Text(b), got)
			}
		}
	}
}

// P5.1: each of a type's parts counts.
func TestSameInAllParts(t *testing.T) {
	for _, x := range []struct{ a, b api.Type }{
		{whole(4), bare(4)}, {whole(4), whole(8)}, {whole(3), bare(3)},
		{row(2, char), row(3, char)}, {row(2, char), row(2, uchar)}, {row(2, row(3, char)), row(3, row(2, char))},
		{structOf("a"), structOf("b")}, {structOf("a"), unionOf("a")}, {structOf(""), unionOf("")},
		{fun(void), fun(void, void)}, {fun(void, char), fun(void, short)}, {fun(void, char, char), fun(void, char)}, {fun(char, short), fun(short, char)},
		{fun(void, char, short), fun(void, short, char)}, {fun(none), fun(none, none)}, {fun(void, none), fun(void)},
		{to(char), char}, {to(none), none}, {to(none), to(void)}, {to(to(none)), to(none)}, {none, void}, {row(1, char), to(char)}, {row(1, none), none}, {double, long}, {fun(int32s), to(int32s)},
	} {
		if ctype.Same(x.a, x.b) || ctype.Same(x.b, x.a) {
			t.Errorf("%s and %s are the same", ctype.Text(x.a), ctype.Text(x.b))
		}
		if !ctype.Same(x.a, x.a) || !ctype.Same(x.b, x.b) {
			t.Errorf("%s or %s isn't the same as itself", ctype.Text(x.a), ctype.Text(x.b))
		}
	}
}

// P5.1: a list without elements is the same as none.
func TestSameOfEmptyLists(t *testing.T) {
	empty := func(t api.Type) api.Type {
		t.Kids = []api.Type{}
		return t
	}
	for _, x := range []struct{ a, b api.Type }{
		{empty(none), none}, {empty(void), void}, {empty(int32s), int32s}, {empty(double), double}, {empty(structOf("s")), structOf("s")},
		{fun(int32s), api.Function{Result: int32s, Params: []api.Type{}}.Type()}, {to(empty(none)), to(none)}, {fun(empty(char), empty(none)), fun(char, none)},
	} {
		if !ctype.Same(x.a, x.b) || !ctype.Same(x.b, x.a) {
			t.Errorf("%v and %v aren't the same", x.a, x.b)
		}
	}
}

// P5.1: what stands as deep as may be counts too.
func TestSameOfDeepTypes(t *testing.T) {
	a, b, c := deep(api.MaxDepth, int32s), deep(api.MaxDepth, int32s), deep(api.MaxDepth, uint32)
	for i := range a {
		if !ctype.Same(a[i], b[i]) || ctype.Same(a[i], c[i]) || ctype.Same(c[i], a[i]) {
			t.Errorf("deep type %d: %v, %v, %v", i, ctype.Same(a[i], b[i]), ctype.Same(a[i], c[i]), ctype.Same(c[i], a[i]))
		}
	}
}

// P5.1: how types are written.
func TestText(t *testing.T) {
	for _, x := range []struct {
		t    api.Type
		want string
	}{
		{void, "void"}, {double, "double"}, {none, "?"},
		{char, "char"}, {short, "short"}, {int32s, "int"}, {long, "long"},
		{uchar, "unsigned char"}, {ushort, "unsigned short"}, {uint32, "unsigned int"}, {ulong, "unsigned long"},
		{to(int32s), "int*"}, {to(to(uchar)), "unsigned char**"}, {to(void), "void*"}, {to(none), "?*"},
		{row(3, to(int32s)), "int*[3]"}, {to(row(3, int32s)), "int[3]*"}, {row(2, row(3, char)), "char[3][2]"}, {row(0, none), "?[0]"}, {row(-5, char), "char[-5]"}, {row(math.MaxInt, void), "void[9223372036854775807]"}, {row(math.MinInt, void), "void[-9223372036854775808]"},
		{structOf("s"), "struct s"}, {unionOf("u"), "union u"}, {structOf(""), "struct "}, {unionOf("é b"), "union é b"}, {to(structOf("s")), "struct s*"},
		{fun(void), "void()"}, {fun(int32s, char), "int(char)"}, {fun(int32s, char, to(ulong), double), "int(char, unsigned long*, double)"}, {fun(none), "?()"}, {fun(none, none, none), "?(?, ?)"},
		{to(fun(int32s, int32s, to(char))), "int(int, char*)*"}, {row(2, to(fun(void))), "void()*[2]"}, {fun(fun(void, char), fun(char, void), to(fun(long))), "void(char)(char(void), long()*)"},
	} {
		if got := ctype.Text(x.t); got != x.want {
			t.Errorf("Text of %v: %q, not %q", x.t, got, x.want)
		}
	}
	for _, x := range oddNumbers() {
		if got := ctype.Text(x); got != "?" {
			t.Errorf("Text of %v: %q", x, got)
		}
	}
}

// P5.1: how types are written that nest as deep as may be.
func TestTextOfDeepTypes(t *testing.T) {
	n := api.MaxDepth - 1
	list := deep(api.MaxDepth, structOf("s"))
	for i, want := range []string{
		"struct s" + strings.Repeat("*", n),
		"struct s" + strings.Repeat("[1]", n),
		"struct s" + strings.Repeat("(char, ?)", n),
		strings.Repeat("void(char, ", n) + "struct s" + strings.Repeat(", ?)", n),
	} {
		if got := ctype.Text(list[i]); got != want {
			t.Errorf("Text of deep type %d: %q", i, got)
		}
	}
}

// P5.1: how deep types nest.
func TestDepth(t *testing.T) {
	for _, x := range []struct {
		t    api.Type
		want int
	}{
		{none, 0}, {void, 1}, {double, 1}, {char, 1}, {ulong, 1}, {whole(3), 1}, {bare(0), 1}, {structOf("s"), 1}, {unionOf(""), 1},
		{to(none), 1}, {to(void), 2}, {to(to(char)), 3}, {row(2, none), 1}, {row(0, char), 2}, {row(-1, char), 2}, {row(2, row(3, to(double))), 4},
		{fun(none), 1}, {fun(void), 2}, {fun(none, none), 1}, {fun(none, char), 2}, {fun(void, char, to(char), char), 3}, {fun(to(to(void)), char), 4}, {fun(void, to(to(void)), to(char)), 4}, {to(fun(void, to(char))), 4},
	} {
		if got := ctype.Depth(x.t); got != x.want {
			t.Errorf("Depth of %s: %d, not %d", ctype.Text(x.t), got, x.want)
		}
	}
	for _, n := range []int{2, 3, 17, api.MaxDepth - 1, api.MaxDepth, api.MaxDepth + 1} {
		for i, x := range deep(n, double) {
			if got := ctype.Depth(x); got != n {
				t.Errorf("Depth of deep type %d: %d, not %d", i, got, n)
			}
		}
	}
}

// P5.1: how scalars stand in memory, and the kinds of their values.
func TestChunkAndKind(t *testing.T) {
	check := func(x api.Type, chunk, kind int) {
		t.Helper()
		if c, k := ctype.Chunk(x), ctype.Kind(x); c != chunk || k != kind {
			t.Errorf("%s: chunk %d, kind %d, not %d, %d", ctype.Text(x), c, k, chunk, kind)
		}
	}
	check(char, api.C8S, api.Int)
	check(uchar, api.C8U, api.Int)
	check(short, api.C16S, api.Int)
	check(ushort, api.C16U, api.Int)
	check(int32s, api.C32, api.Int)
	check(uint32, api.C32, api.Int)
	check(long, api.C64, api.Long)
	check(ulong, api.C64, api.Long)
	check(double, api.CF64, api.Double)
	for _, x := range append(pointers(), deep(api.MaxDepth, char)[0]) {
		check(x, api.C64, api.Long)
	}
	for _, x := range append(others(), oddNumbers()...) {
		check(x, 0, 0)
	}
}
