package graphs

import (
	"fmt"
	"reflect"
	"slices"
	"testing"

	"alembic/api"
	"alembic/fold"
	"alembic/mach"
)

// known are values of registers: a register's number, its value.
type known = map[int]api.Value

// P16.4: what is known, of each instruction of a function of the Sig ili with a frame of 8 bytes, whose registers are iildddill.
func TestKnown(t *testing.T) {
	one, two, half := i32(1), i32(2), f64(0x3fe0000000000000)
	for _, r := range []struct {
		what string
		code []api.Instr
		want []known
	}{
		{"nothing at first", []api.Instr{ret(0)}, []known{{}}},
		{"a number", []api.Instr{num(0, one), ret(0)}, []known{{}, {0: one}}},
		{"numbers of all kinds", []api.Instr{num(0, one), num(2, i64(1)), num(3, half), ret(0)}, []known{{}, {0: one}, {0: one, 2: i64(1)}, {0: one, 2: i64(1), 3: half}}},
		{"another number", []api.Instr{num(0, one), num(0, two), ret(0)}, []known{{}, {0: one}, {0: two}}},
		{"what isn't a number", []api.Instr{num(3, f64(0x7ff8000000000001)), op(4, api.OpNegD, 3), ret()}, []known{{}, {3: f64(0x7ff8000000000001)}, {3: f64(0x7ff8000000000001), 4: f64(0xfff8000000000001)}}},
		{"a move", []api.Instr{num(1, one), op(0, api.OpMove, 1), num(1, two), ret(0)}, []known{{}, {1: one}, {0: one, 1: one}, {0: one, 1: two}}},
		{"a move of what isn't known", []api.Instr{num(1, one), op(1, api.OpMove, 0), ret(0)}, []known{{}, {1: one}, {}}},
		{"an operation of one", []api.Instr{num(1, one), op(2, api.OpLongS, 1), op(3, api.OpDblL, 2), ret(0)}, []known{{}, {1: one}, {1: one, 2: i64(1)}, {1: one, 2: i64(1), 3: f64(0x3ff0000000000000)}}},
		{"of two", []api.Instr{num(1, two), op(6, api.OpMul, 1, 1), ret(0)}, []known{{}, {1: two}, {1: two, 6: i32(4)}}},
		{"of one and a number", []api.Instr{num(1, two), opN(6, api.OpSub, 1, 5), ret(0)}, []known{{}, {1: two}, {1: two, 6: i32(-3)}}},
		{"of a Long and a shift's number", []api.Instr{num(2, i64(-1)), opN(7, api.OpShrU+api.OfLong, 2, 60), ret(0)}, []known{{}, {2: i64(-1)}, {2: i64(-1), 7: i64(15)}}},
		{"of Doubles", []api.Instr{num(3, half), op(4, api.OpAddD, 3, 3), op(6, api.OpLtD, 3, 4), ret(0)}, []known{{}, {3: half}, {3: half, 4: f64(0x3ff0000000000000)}, {3: half, 4: f64(0x3ff0000000000000), 6: one}}},
		{"whether a Long is true", []api.Instr{num(2, i64(1<<40)), op(6, api.OpTruth, 2), op(1, api.OpFalse, 6), ret(0)}, []known{{}, {2: i64(1 << 40)}, {2: i64(1 << 40), 6: one}, {1: i32(0), 2: i64(1 << 40), 6: one}}},
		{"of itself", []api.Instr{num(1, two), op(1, api.OpAdd, 1, 1), op(1, api.OpAdd, 1, 1), ret(0)}, []known{{}, {1: two}, {1: i32(4)}, {1: i32(8)}}},
		{"of one that isn't known", []api.Instr{num(1, two), num(6, two), op(6, api.OpMul, 1, 0), ret(0)}, []known{{}, {1: two}, {1: two, 6: two}, {1: two}}},
		{"the other one isn't", []api.Instr{num(1, i32(0)), op(6, api.OpMul, 0, 1), ret(0)}, []known{{}, {1: i32(0)}, {1: i32(0)}}},
		{"without a meaning", []api.Instr{num(1, i32(0)), num(6, two), op(6, api.OpDiv, 6, 1), ret(0)}, []known{{}, {1: i32(0)}, {1: i32(0), 6: two}, {1: i32(0)}}},
		{"a shift without a meaning", []api.Instr{num(1, one), opN(1, api.OpShl, 1, 32), ret(0)}, []known{{}, {1: one}, {}}},
		{"addresses", []api.Instr{num(7, i64(1)), num(8, i64(1)), global(7, "gi", 0), frame(8, 4), op(6, api.OpTruth, 7), ret(0)}, []known{{}, {7: i64(1)}, {7: i64(1), 8: i64(1)}, {8: i64(1)}, {}, {}}},
		{"what is loaded", []api.Instr{num(6, one), global(7, "gi", 0), load(6, api.C32, 7, 0), ret(0)}, []known{{}, {6: one}, {6: one}, {}}},
		{"what is called", []api.Instr{num(6, one), num(1, one), call(6, "int", "ii", 1), ret(0)}, []known{{}, {6: one}, {1: one, 6: one}, {1: one}}},
		{"a call without a Dst", []api.Instr{num(6, one), call(-1, "int", "ii", 6), store(api.C32, 7, 0, 6), nop(), ret(0)}, []known{{}, {6: one}, {6: one}, {6: one}, {6: one}}},
		{"a parameter", []api.Instr{num(0, one), num(2, i64(5)), ret(0)}, []known{{}, {0: one}, {0: one, 2: i64(5)}}},
		{"the same on both ways", []api.Instr{cond(0, 1, 2), to(3, num(1, one)), num(1, one), ret(1)}, []known{{}, {}, {}, {1: one}}},
		{"unlike on both ways", []api.Instr{num(6, one), cond(0, 2, 3), to(4, num(1, one)), num(1, two), ret(1)}, []known{{}, {6: one}, {6: one}, {6: one}, {6: one}}},
		{"numbers of unlike bits", []api.Instr{cond(0, 1, 2), to(3, num(3, f64(0))), num(3, f64(1<<63)), ret(0)}, []known{{}, {}, {}, {}}},
		{"known on one way", []api.Instr{cond(0, 1, 2), num(1, one), ret(1)}, []known{{}, {}, {}}},
		{"one instruction on both", []api.Instr{num(1, one), cond(0, 2, 2), ret(1)}, []known{{}, {1: one}, {1: one}}},
		{"ways that a known test doesn't go", []api.Instr{num(1, one), cond(1, 2, 3), to(4, num(6, one)), num(6, two), ret(1)}, []known{{}, {1: one}, {1: one}, {1: one}, {1: one}}},
		{"what stays in a loop", []api.Instr{num(1, one), num(6, two), cond(0, 3, 5), opN(0, api.OpAdd, 0, 1), to(2, num(6, two)), ret(1)}, []known{{}, {1: one}, {1: one, 6: two}, {1: one, 6: two}, {1: one, 6: two}, {1: one, 6: two}}},
		{"what changes in a loop", []api.Instr{num(1, one), num(6, two), cond(0, 3, 5), op(1, api.OpMove, 6), to(2, num(6, one)), ret(1)}, []known{{}, {1: one}, {}, {}, {}, {}}},
		{"what changes behind what changes", []api.Instr{num(1, one), num(6, one), cond(0, 3, 5), op(6, api.OpMove, 1), to(2, op(1, api.OpMove, 0)), ret(1)}, []known{{}, {1: one}, {}, {}, {}, {}}},
		{"a round from Entry on", []api.Instr{num(1, one), to(0, num(6, one))}, []known{{}, {1: one}}},
		{"a round of one", []api.Instr{num(1, one), cond(1, 1, 0)}, []known{{}, {1: one}}},
		{"what no way leads to", []api.Instr{num(1, one), ret(1), num(6, one), ret(1)}, []known{{}, {1: one}, {}, {}}},
		{"nor comes from", []api.Instr{to(2, num(1, one)), num(1, two), num(6, one), ret(1)}, []known{{}, {}, {1: one}, {1: one, 6: one}}},
		{"a tail", []api.Instr{num(1, one), tail("int", "ii", 1)}, []known{{}, {1: one}}},
	} {
		f := framed(8, function("f", "ili", "iildddill", r.code...))
		f.Params = []int{0, 2}
		if faults := faultsOf(program(f)); len(faults) > 0 {
			t.Errorf("%s isn't right: %v", r.what, faults)
		}
		got := fold.Known(f)
		if len(got) != len(r.want) {
			t.Fatalf("%s: %v", r.what, got)
		}
		for n, want := range r.want {
			if len(got[n]) != len(want) || len(want) > 0 && !reflect.DeepEqual(got[n], want) {
				t.Errorf("%s, instruction %d: %v, not %v", r.what, n, got[n], want)
			}
		}
	}
}

// P16.4: from another Entry.
func TestKnownFromEntry(t *testing.T) {
	f := function("f", "v", "ii", to(2, num(0, i32(1))), to(0, num(1, i32(2))), ret())
	f.Entry = 1
	if got := fold.Known(f); !reflect.DeepEqual(got[0], known{1: i32(2)}) || !reflect.DeepEqual(got[2], known{0: i32(1), 1: i32(2)}) || len(got[1]) != 0 {
		t.Error(got)
	}
}

// leastKnown is what must be known at least, as the document has it: nothing at Entry, what follows behind each instruction, what all know where ways meet. It begins with no way gone, and goes each way again and again, till nothing changes.
func leastKnown(f api.Graph) []known {
	all := make([]known, len(f.Code))
	all[f.Entry] = known{}
	for changed := true; changed; {
		changed = false
		for n, i := range f.Code {
			if all[n] == nil {
				continue
			}
			behind := knownBehind(i, all[n])
			for _, k := range nextOf(i) {
				if all[k] == nil {
					all[k], changed = copied(behind), true
				}
				for r, v := range all[k] {
					if w, ok := behind[r]; !ok || w != v {
						delete(all[k], r)
						changed = true
					}
				}
				if k == f.Entry {
					clear(all[k])
				}
			}
		}
	}
	return all
}

func copied(k known) known {
	made := known{}
	for r, v := range k {
		made[r] = v
	}
	return made
}

// nextOf are the instructions that one may go on to.
func nextOf(i api.Instr) []int {
	switch i.Kind {
	case api.ICond:
		return []int{i.Next, i.Else}
	case api.ITail, api.IReturn:
		return nil
	}
	return []int{i.Next}
}

func knownBehind(i api.Instr, ahead known) known {
	behind := copied(ahead)
	switch i.Kind {
	case api.IOp:
		delete(behind, i.Dst)
		if v, ok := answerOf(i, ahead); ok {
			behind[i.Dst] = v
		}
	case api.ILoad, api.ICall:
		delete(behind, i.Dst)
	}
	return behind
}

// answerOf is the value of an operation all of whose Args are known, if it has one, and a meaning.
func answerOf(i api.Instr, ahead known) (v api.Value, ok bool) {
	var args []api.Value
	for _, r := range i.Args {
		v, ok := ahead[r]
		if !ok {
			return v, false
		}
		args = append(args, v)
	}
	if i.Op == api.OpGlobal || i.Op == api.OpFrame {
		return v, false
	}
	defer func() {
		if recover() != nil {
			v, ok = api.Value{}, false
		}
	}()
	return (&model{}).operation(i, args, 0), true
}

// walked goes some way through a function, whatever its tests say, with whatever parameters, loads and calls answer, and tells what the registers are ahead of each instruction.
func walked(g *grower, f api.Graph, look func(n int, registers []api.Value)) {
	registers := make([]api.Value, len(f.Kinds))
	any := func(kind int) api.Value {
		switch g.below(5) {
		case 0:
			return api.Value{}
		case 1:
			if kind == api.Long {
				return mach.PtrOf(1+g.below(3), int64(g.below(9)))
			}
		}
		return g.number(kind)
	}
	for _, p := range f.Params {
		registers[p] = any(f.Kinds[p])
	}
	m := &model{blocks: map[string]int{"gi": 1, "gl": 2, "ga": 3}}
	defer func() {
		if r := recover(); r != nil && r != (stop{status: api.Wrong}) {
			panic(r)
		}
	}()
	for n, steps := f.Entry, 0; steps < 60; steps++ {
		look(n, registers)
		i := f.Code[n]
		switch i.Kind {
		case api.IOp:
			var args []api.Value
			for _, r := range i.Args {
				args = append(args, registers[r])
			}
			registers[i.Dst] = m.operation(i, args, 9)
		case api.ILoad, api.ICall:
			if i.Dst >= 0 {
				registers[i.Dst] = any(f.Kinds[i.Dst])
			}
		}
		next := nextOf(i)
		if len(next) == 0 {
			return
		}
		n = oneOf(g, next...)
	}
}

// P16.4: of grown functions enough is known, and what is known is so on every way.
func TestKnownOfGrown(t *testing.T) {
	var many, met, looks int
	for seed := range 2000 {
		g, p := grownProgram(seed)
		for _, f := range p.Funcs {
			what := fmt.Sprintf("seed %d, %s", seed, f.Name)
			got := fold.Known(f)
			for n, want := range leastKnown(f) {
				for r, v := range want {
					if w, ok := got[n][r]; !ok || w != v {
						t.Errorf("%s, instruction %d: register %d is %v, %v, not %v", what, n, r, w, ok, v)
					}
					many++
				}
				if want == nil && len(got[n]) > 0 {
					t.Errorf("%s, instruction %d: no way leads there, but known are %v", what, n, got[n])
				}
			}
			for range 4 {
				walked(g, f, func(n int, registers []api.Value) {
					for r, v := range got[n] {
						if registers[r] != v {
							t.Errorf("%s, instruction %d: register %d is %v, not %v", what, n, r, registers[r], v)
						}
						met++
					}
					looks++
				})
			}
			if !reflect.DeepEqual(fold.Known(f), got) {
				t.Errorf("%s: something else is known the second time", what)
			}
		}
		if _, again := grownProgram(seed); !reflect.DeepEqual(p, again) || t.Failed() {
			t.Fatalf("seed %d", seed)
		}
	}
	if many < 200000 || met < 5*looks {
		t.Errorf("%d values, %d were met in %d looks", many, met, looks)
	}
}

// P16.4: each answer is new memory, each map of it its own.
func TestKnownIsNew(t *testing.T) {
	f := function("f", "v", "i", num(0, i32(1)), nop(), nop(), ret())
	first, second := fold.Known(f), fold.Known(f)
	clear(first[1])
	first[2][0] = i32(9)
	if want := (known{0: i32(1)}); !reflect.DeepEqual(first[3], want) || !reflect.DeepEqual(second[1:], []map[int]api.Value{want, want, want}) {
		t.Error(first, second)
	}
}

// P16.4: very many instructions, of which little is known, and what is known of very many registers.
func TestKnownOfMuch(t *testing.T) {
	const n = 1 << 17
	code := []api.Instr{num(0, i32(7))}
	for i := range n {
		code = append(code, opN(1, api.OpAdd, 1, int64(i)))
	}
	code = append(code, op(1, api.OpMove, 0), ret())
	if got := fold.Known(function("f", "v", "ii", code...)); len(got) != n+3 || !reflect.DeepEqual(got[n+1], known{0: i32(7)}) || !reflect.DeepEqual(got[n+2], known{0: i32(7), 1: i32(7)}) {
		t.Errorf("%d, %v", len(got), got[n:])
	}
	code, kinds := nil, []int{}
	for i := range 2000 {
		kinds = append(kinds, api.Int)
		code = append(code, num(i, i32(int32(i))))
	}
	f := function("f", "v", "", append(code, ret())...)
	f.Kinds = kinds
	for i, got := range fold.Known(f) {
		if len(got) != i || i > 0 && got[i-1] != i32(int32(i-1)) {
			t.Fatalf("instruction %d: %d are known", i, len(got))
		}
	}
}

// P16.4: many loops one in another, each of which lets a register be unknown from the innermost on.
func TestKnownInLoops(t *testing.T) {
	const n = 60
	// registers 0 to n are moved along, the last one is a parameter's; from the last instructions on it goes back to each loop's head
	var code []api.Instr
	for i := range n {
		code = append(code, num(i, i32(5)))
	}
	head := len(code)
	for i := range n {
		code = append(code, op(i, api.OpMove, i+1))
	}
	for i := range n {
		code = append(code, cond(n, len(code)+1, head+i))
	}
	code = append(code, ret())
	f := function("f", "iv", "", code...)
	f.Kinds, f.Params = slices.Repeat([]int{api.Int}, n+1), []int{n}
	got := fold.Known(f)
	for i, want := range leastKnown(f) {
		if len(want) != len(got[i]) {
			t.Errorf("instruction %d: %v, not %v", i, got[i], want)
		}
	}
	if len(got[head]) != 0 || len(got[head-1]) != n-1 {
		t.Errorf("%v, then %v", got[head-1], got[head])
	}
}
