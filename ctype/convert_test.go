package ctype_test

import (
	"math"
	"math/big"
	"slices"
	"testing"

	"alembic/api"
	"alembic/ctype"
	"alembic/mach"
)

// P5.1: small numbers are reckoned with as int, all other types stay.
func TestPromote(t *testing.T) {
	for _, x := range all() {
		want := x
		if n := x.Number(); x.Kind == api.KNumber && (n.Size == 1 || n.Size == 2) {
			want = int32s
		}
		if got := ctype.Promote(x); !ctype.Same(got, want) {
			t.Errorf("Promote of %s: %s", ctype.Text(x), ctype.Text(got))
		}
	}
	for _, x := range deep(api.MaxDepth, char) {
		if !ctype.Same(ctype.Promote(x), x) {
			t.Errorf("Promote of %s", ctype.Text(x))
		}
	}
}

// P5.1: the type in which an operation of two is done: a row and a column for each of char, short, int, long with and without a sign, and double.
func TestCommon(t *testing.T) {
	list := append(numbers(), double)
	names := map[byte]api.Type{'i': int32s, 'I': uint32, 'l': long, 'L': ulong, 'd': double}
	for i, line := range []string{
		"iiiiiIlLd",
		"iiiiiIlLd",
		"iiiiiIlLd",
		"iiiiiIlLd",
		"iiiiiIlLd",
		"IIIIIIlLd",
		"lllllllLd",
		"LLLLLLLLd",
		"ddddddddd",
	} {
		for j := range line {
			if got, ok := ctype.Common(list[i], list[j]); !ok || !ctype.Same(got, names[line[j]]) {
				t.Errorf("Common of %s and %s: %s, %v", ctype.Text(list[i]), ctype.Text(list[j]), ctype.Text(got), ok)
			}
		}
	}
}

// P5.1: with what isn't arithmetic nothing is common.
func TestNoCommon(t *testing.T) {
	bad := append(append(pointers(), others()...), oddNumbers()...)
	for _, x := range bad {
		for _, y := range all() {
			for _, pair := range [][2]api.Type{{x, y}, {y, x}} {
				if got, ok := ctype.Common(pair[0], pair[1]); ok || !ctype.Same(got, none) {
					t.Errorf("Common of %s and %s: %s, %v", ctype.Text(pair[0]), ctype.Text(pair[1]), ctype.Text(got), ok)
				}
			}
		}
	}
}

func checkOps(t *testing.T, from, to api.Type, want []int, wantOK bool) {
	t.Helper()
	if got, ok := ctype.Ops(from, to); ok != wantOK || !slices.Equal(got, want) {
		t.Errorf("Ops from %s to %s: %v, %v, not %v, %v", ctype.Text(from), ctype.Text(to), got, ok, want, wantOK)
	}
}

// P5.1: the operations between arithmetic types: a row for each from, a column for each to.
func TestOps(t *testing.T) {
	list := append(numbers(), double)
	// the steps' names
	const s8, u8, s16, u16 = api.OpS8, api.OpU8, api.OpS16, api.OpU16
	type steps = []int
	low := func(last ...int) steps { return append(steps{api.OpInt}, last...) }
	cut := func(last ...int) steps { return append(steps{api.OpIntD}, last...) }
	for i, line := range [][]steps{
		{nil, {u8}, {s16}, {u16}, nil, nil, {api.OpLongS}, {api.OpLongS}, {api.OpDblS}},
		{{s8}, nil, {s16}, {u16}, nil, nil, {api.OpLongU}, {api.OpLongU}, {api.OpDblS}},
		{{s8}, {u8}, nil, {u16}, nil, nil, {api.OpLongS}, {api.OpLongS}, {api.OpDblS}},
		{{s8}, {u8}, {s16}, nil, nil, nil, {api.OpLongU}, {api.OpLongU}, {api.OpDblS}},
		{{s8}, {u8}, {s16}, {u16}, nil, nil, {api.OpLongS}, {api.OpLongS}, {api.OpDblS}},
		{{s8}, {u8}, {s16}, {u16}, nil, nil, {api.OpLongU}, {api.OpLongU}, {api.OpDblU}},
		{low(s8), low(u8), low(s16), low(u16), low(), low(), nil, nil, {api.OpDblL}},
		{low(s8), low(u8), low(s16), low(u16), low(), low(), nil, nil, {api.OpDblUL}},
		{cut(s8), cut(u8), cut(s16), cut(u16), {api.OpIntD}, {api.OpUintD}, {api.OpLongD}, {api.OpUlongD}, nil},
	} {
		for j, want := range line {
			checkOps(t, list[i], list[j], want, true)
		}
	}
}

// P5.1: between pointers nothing is done; no operations lead from or to any other type.
func TestOpsOfOthers(t *testing.T) {
	arithmetic := append(numbers(), double)
	for _, x := range pointers() {
		for _, y := range pointers() {
			checkOps(t, x, y, nil, true)
		}
		for _, y := range arithmetic {
			checkOps(t, x, y, nil, false)
			checkOps(t, y, x, nil, false)
		}
	}
	for _, x := range append(others(), oddNumbers()...) {
		for _, y := range all() {
			checkOps(t, x, y, nil, false)
			checkOps(t, y, x, nil, false)
		}
	}
}

// bounds are the least and the greatest number of a Number.
func bounds(n api.Number) (least, greatest *big.Int) {
	bits := uint(8 * n.Size)
	one := big.NewInt(1)
	if n.Unsigned {
		return new(big.Int), new(big.Int).Sub(new(big.Int).Lsh(one, bits), one)
	}
	half := new(big.Int).Lsh(one, bits-1)
	return new(big.Int).Neg(half), new(big.Int).Sub(half, one)
}

func within(x *big.Int, n api.Number) bool {
	least, greatest := bounds(n)
	return x.Cmp(least) >= 0 && x.Cmp(greatest) <= 0
}

// wrapped is the number of a Number that differs from x by a multiple of 2^bits.
func wrapped(x *big.Int, n api.Number) *big.Int {
	least, _ := bounds(n)
	all := new(big.Int).Lsh(big.NewInt(1), uint(8*n.Size))
	r := new(big.Int).Sub(x, least)
	return r.Add(r.Mod(r, all), least)
}

// valueOf is the value that stands for a number of a Number.
func valueOf(x *big.Int, n api.Number) api.Value {
	low := wrapped(x, api.Number{Size: 8, Unsigned: true}).Uint64()
	if n.Size == 8 {
		return mach.LongOf(int64(low))
	}
	return mach.IntOf(int32(low))
}

// numberOf is the number for which a value of a Number stands; false, if it is none of its values.
func numberOf(v api.Value, n api.Number) (*big.Int, bool) {
	for _, x := range []*big.Int{new(big.Int).SetUint64(v.Bits), big.NewInt(int64(v.Bits)), big.NewInt(int64(int32(v.Bits)))} {
		if within(x, n) && valueOf(x, n) == v {
			return x, true
		}
	}
	return nil, false
}

// edges are the numbers of a Number at which something may turn, and some between.
func edges(n api.Number) []*big.Int {
	var list []*big.Int
	for bit := range uint(65) {
		for near := int64(-2); near <= 2; near++ {
			for _, sign := range []int64{-1, 1} {
				x := new(big.Int).Lsh(big.NewInt(1), bit)
				x.Mul(x.Add(x, big.NewInt(near)), big.NewInt(sign))
				if within(x, n) {
					list = append(list, x)
				}
			}
		}
	}
	for i := range int64(600) {
		list = append(list, wrapped(big.NewInt(i*i*i*7919-i*i*100003+i-300), n))
	}
	return list
}

// run does Ops' operations, one behind the other.
func run(t *testing.T, from, to api.Type, v api.Value) (api.Value, bool) {
	t.Helper()
	ops, ok := ctype.Ops(from, to)
	if !ok {
		t.Fatalf("no Ops from %s to %s", ctype.Text(from), ctype.Text(to))
	}
	for _, op := range ops {
		if v, ok = mach.Eval1(op, v); !ok {
			return v, false
		}
	}
	return v, true
}

// P5.3: between Numbers each value becomes one; a number that both have stays, any other one wraps.
func TestOpsBetweenNumbers(t *testing.T) {
	for _, from := range numbers() {
		for _, to := range numbers() {
			x, y := from.Number(), to.Number()
			for _, n := range edges(x) {
				v, ok := run(t, from, to, valueOf(n, x))
				got, isOne := numberOf(v, y)
				if !ok || !isOne || got.Cmp(wrapped(n, y)) != 0 {
					t.Fatalf("%v from %s to %s: %v, %v", n, ctype.Text(from), ctype.Text(to), v, ok)
				}
			}
		}
	}
}

// P5.3: a Number becomes the double nearest to it.
func TestOpsToDouble(t *testing.T) {
	for _, from := range numbers() {
		for _, n := range edges(from.Number()) {
			want, _ := new(big.Float).SetInt(n).Float64()
			if v, ok := run(t, from, double, valueOf(n, from.Number())); !ok || v != mach.DoubleOf(math.Float64bits(want)) {
				t.Fatalf("%v from %s to double: %v, %v", n, ctype.Text(from), v, ok)
			}
		}
	}
}

// P5.3: a double whose whole part a Number has becomes that; of others a value of the Number, or nothing with a meaning.
func TestOpsFromDouble(t *testing.T) {
	for _, to := range numbers() {
		n := to.Number()
		for _, from := range numbers() {
			for _, x := range edges(from.Number()) {
				d, _ := new(big.Float).SetInt(x).Float64()
				for _, d := range []float64{d, d + 0.5, d - 0.25, -d, math.Inf(1), math.NaN()} {
					v, ok := run(t, double, to, mach.DoubleOf(math.Float64bits(d)))
					got, isOne := numberOf(v, n)
					if ok && !isOne {
						t.Fatalf("%v to %s: %v", d, ctype.Text(to), v)
					}
					if math.IsNaN(d) || math.IsInf(d, 0) {
						continue
					}
					if cut, _ := big.NewFloat(d).Int(nil); within(cut, n) && (!ok || got.Cmp(cut) != 0) {
						t.Fatalf("%v to %s: %v, %v", d, ctype.Text(to), v, ok)
					}
				}
			}
		}
	}
}

// P5.3: a value of the same type, and a pointer of any, stays.
func TestOpsToItself(t *testing.T) {
	for _, x := range append(numbers(), double) {
		checkOps(t, x, x, nil, true)
	}
	p := mach.PtrOf(3, 16)
	if v, ok := run(t, to(char), to(structOf("s")), p); !ok || v != p {
		t.Errorf("%v, %v", v, ok)
	}
}
