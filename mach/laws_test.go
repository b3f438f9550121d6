package mach_test

import (
	"math"
	"testing"

	"alembic/api"
	"alembic/mach"
)

// mixed are values of all kinds, those that aren't right among them.
func mixed() []api.Value {
	list := []api.Value{{}, {Bits: 3, Block: 3}, {Kind: 5, Bits: 1, Block: 1}, {Kind: -1}, {Kind: math.MaxInt}, {Kind: math.MinInt}}
	for _, n := range []uint64{0, 1, 5, 31, 32, 63, 64, 1<<31 - 1, 1 << 31, 1<<32 - 1, 1 << 32, 1<<32 + 1, 1 << 63, 1<<63 + 1, math.MaxUint64, 0x3ff0000000000000, 0xc1e0000000200000, 0x7ff0000000000000, 0x7ff0000000000001, 0xfff8000000000000} {
		for _, kind := range []int{api.Int, api.Long, api.Double, api.Ptr} {
			for _, block := range []int{0, 1, 2, -1} {
				list = append(list, api.Value{Kind: kind, Bits: n, Block: block})
			}
		}
	}
	return list
}

// TestAnswersAreRight: what an operation answers is right, and the undefined value just where there is no meaning.
func TestAnswersAreRight(t *testing.T) {
	list := mixed()
	look := func(op int, r api.Value, ok bool) {
		if !mach.Right(r) || ok == (r == none) {
			t.Errorf("%d answers %v, %v", op, r, ok)
		}
		if _, _, kind := mach.Shape(op); ok && r.Kind != kind && r.Kind != api.Ptr {
			t.Errorf("%d answers %v, not of its Shape", op, r)
		}
	}
	for op := -1; op <= 130; op++ {
		for _, x := range list {
			r, ok := mach.Eval1(op, x)
			look(op, r, ok)
			for _, y := range list {
				r, ok := mach.Eval2(op, x, y)
				look(op, r, ok)
			}
		}
	}
}

// cleaned is a value without what plays no part.
func cleaned(x api.Value) api.Value {
	switch x.Kind {
	case api.Int:
		return api.Value{Kind: api.Int, Bits: x.Bits % (1 << 32)}
	case api.Long, api.Double:
		return api.Value{Kind: x.Kind, Bits: x.Bits}
	case api.Ptr:
		return x
	}
	return api.Value{}
}

// TestWhatPlaysNoPart: operations answer of values that aren't right what they answer of the right ones that these stand for.
func TestWhatPlaysNoPart(t *testing.T) {
	list := mixed()
	for op := 0; op <= 100; op++ {
		for _, x := range list {
			want, _ := mach.Eval1(op, cleaned(x))
			check1(t, op, x, want)
			for _, y := range list {
				want, _ := mach.Eval2(op, cleaned(x), cleaned(y))
				check2(t, op, x, y, want)
			}
		}
	}
}

func TestSumsAndProductsAreCommutative(t *testing.T) {
	list := mixed()
	for _, op := range []int{api.OpAdd, api.OpMul, api.OpAdd + api.OfLong, api.OpMul + api.OfLong, api.OpAddD, api.OpMulD} {
		for _, x := range list {
			for _, y := range list {
				want, _ := mach.Eval2(op, x, y)
				check2(t, op, y, x, want)
			}
		}
	}
}

func TestQuotientAndRest(t *testing.T) {
	held := 0
	for _, x := range mixed() {
		for _, y := range mixed() {
			for _, off := range []int{0, api.OfLong} {
				for _, by := range [][2]int{{api.OpDiv, api.OpMod}, {api.OpDivU, api.OpModU}} {
					q, ok := mach.Eval2(by[0]+off, x, y)
					r, rok := mach.Eval2(by[1]+off, x, y)
					if ok != rok {
						t.Errorf("%v by %v: %v, %v", x, y, ok, rok)
					}
					if !ok {
						continue
					}
					held++
					p, _ := mach.Eval2(api.OpMul+off, q, y)
					check2(t, api.OpAdd+off, p, r, cleaned(x))
				}
			}
		}
	}
	if held == 0 {
		t.Error("nothing was divided")
	}
}

// TestThereAndBack: a number that is converted to a greater kind and back is itself.
func TestThereAndBack(t *testing.T) {
	for _, n := range edgeNumbers() {
		x := mach.IntOf(int32(n))
		for _, by := range [][2]int{{api.OpLongS, api.OpInt}, {api.OpLongU, api.OpInt}, {api.OpDblS, api.OpIntD}, {api.OpDblU, api.OpUintD}} {
			great, ok := mach.Eval1(by[0], x)
			if !ok {
				t.Errorf("%d of %v has no meaning", by[0], x)
			}
			check1(t, by[1], great, x)
		}
	}
}

// TestAnswersDependOnArgumentsAlone: the same call again answers the same.
func TestAnswersDependOnArgumentsAlone(t *testing.T) {
	list := mixed()
	for range 2 {
		check2(t, api.OpAdd, i32(1), i32(2), i32(3))
		for _, x := range list {
			r, ok := mach.Eval2(api.OpDiv, x, i32(3))
			again, k := mach.Eval2(api.OpDiv, x, i32(3))
			if r != again || ok != k {
				t.Errorf("%v by 3: %v, then %v", x, r, again)
			}
		}
	}
}
