package check_test

import (
	"math"
	"testing"

	"alembic/api"
	"alembic/check"
	"alembic/ctype"
	"alembic/mach"
	"alembic/parse"
)

// treeOf is the tree of an expression.
func treeOf(t *testing.T, text string) api.Tree {
	t.Helper()
	list, _, errno := parse.Parse("int x = " + text + ";")
	if errno != api.OK {
		t.Fatalf("%q: error %d", text, errno)
	}
	return list[0].TVar().Init
}

// P7.1: numbers, and a minus ahead of one, are constants of their types; nothing else is.
func TestConstant(t *testing.T) {
	of := func(bits float64) api.Value { return mach.DoubleOf(math.Float64bits(bits)) }
	for _, x := range []struct {
		text, of string
		v        api.Value
	}{
		{"0", "int", mach.IntOf(0)}, {"2147483647", "int", mach.IntOf(math.MaxInt32)}, {"2147483648", "long", mach.LongOf(1 << 31)}, {"9223372036854775807", "long", mach.LongOf(math.MaxInt64)}, {"9223372036854775808", "unsigned long", mach.LongOf(math.MinInt64)}, {"18446744073709551615", "unsigned long", mach.LongOf(-1)},
		{"0u", "unsigned int", mach.IntOf(0)}, {"4294967295u", "unsigned int", mach.IntOf(-1)}, {"4294967296u", "unsigned long", mach.LongOf(1 << 32)}, {"1l", "long", mach.LongOf(1)}, {"9223372036854775808l", "unsigned long", mach.LongOf(math.MinInt64)}, {"1ul", "unsigned long", mach.LongOf(1)}, {"1LU", "unsigned long", mach.LongOf(1)},
		{"'a'", "int", mach.IntOf(97)}, {"'\\xff'", "int", mach.IntOf(255)}, {"0.5", "double", of(0.5)}, {"0.0", "double", of(0)},
		{"-1", "int", mach.IntOf(-1)}, {"-2147483647", "int", mach.IntOf(-math.MaxInt32)}, {"-2147483648", "long", mach.LongOf(math.MinInt32)}, {"-9223372036854775808", "unsigned long", mach.LongOf(math.MinInt64)}, {"-18446744073709551615", "unsigned long", mach.LongOf(1)}, {"-1u", "unsigned int", mach.IntOf(-1)}, {"-1l", "long", mach.LongOf(-1)}, {"-4294967296u", "unsigned long", mach.LongOf(-1 << 32)}, {"-'a'", "int", mach.IntOf(-97)}, {"-0", "int", mach.IntOf(0)}, {"-1.5", "double", of(-1.5)}, {"-0.0", "double", of(math.Copysign(0, -1))}, {"(-(1))", "int", mach.IntOf(-1)},
	} {
		v, typ, ok := check.Constant(treeOf(t, x.text))
		if v != x.v || ctype.Text(typ) != x.of || !ok || !mach.Right(v) {
			t.Errorf("%s: %v, %s, %v, not %v, %s", x.text, v, ctype.Text(typ), ok, x.v, x.of)
		}
	}
	for _, text := range []string{"x", "- -1", "~1", "!0", "-x", "1 + 1", "(int) 1", "-(int) 1", "\"a\"", "-\"a\"", "sizeof 1", "sizeof (int)", "1 ? 2 : 3", "(1, 2)", "&x", "*x", "x[1]", "x.a", "x->a", "x()", "x = 1", "x += 1", "x++", "++x", "--x", "-!1", "!-1", "- - 1.5", "&x"} {
		checkNoConstant(t, text, treeOf(t, text))
	}
	for _, text := range []string{"int x;", "int x = 1;", "int x[1] = {1};", "struct s { int a; };", "int f();", "int f() { return 1; }"} {
		list := trees(t, text)
		checkNoConstant(t, text, list[0])
		for _, k := range list[0].Kids {
			if k.Kind != api.KTNum {
				checkNoConstant(t, text, k)
			}
		}
	}
	checkNoConstant(t, "none", api.Tree{})
	checkNoConstant(t, "a minus of none", api.TUnary{Op: "-"}.Tree())
}

func checkNoConstant(t *testing.T, what string, tree api.Tree) {
	t.Helper()
	if v, typ, ok := check.Constant(tree); ok || v != (api.Value{}) || !typ.None() {
		t.Errorf("%s: %v, %s, %v", what, v, ctype.Text(typ), ok)
	}
}
