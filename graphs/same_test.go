package graphs

import (
	"fmt"
	"reflect"
	"slices"
	"testing"

	"alembic/api"
	"alembic/same"
)

// P17.4: the rows of a few graphs.
func TestBlocks(t *testing.T) {
	entry := func(n int, f api.Graph) api.Graph {
		f.Entry = n
		return f
	}
	for _, r := range []struct {
		what string
		f    api.Graph
		want [][]int
	}{
		{"one", function("f", "v", "", ret()), [][]int{{0}}},
		{"one behind the other", function("f", "v", "i", nop(), num(0, i32(1)), call(-1, "int", "ii", 0), ret()), [][]int{{0, 1, 2, 3}}},
		{"in any order", entry(2, function("f", "v", "i", ret(), to(0, nop()), to(1, nop()))), [][]int{{2, 1, 0}}},
		{"a tail", function("f", "i", "i", nop(), tail("int", "ii", 0), nop(), ret()), [][]int{{0, 1}}},
		{"a test", function("f", "v", "i", nop(), cond(0, 2, 3), ret(), ret()), [][]int{{0, 1}, {3}, {2}}},
		{"ways that meet", function("f", "v", "i", cond(0, 1, 2), to(3, nop()), nop(), nop(), ret()), [][]int{{0}, {2}, {1}, {3, 4}}},
		{"a way that goes around", function("f", "v", "i", cond(0, 1, 2), nop(), ret()), [][]int{{0}, {1}, {2}}},
		{"one instruction on both ways", function("f", "v", "i", nop(), cond(0, 2, 2), ret()), [][]int{{0, 1}, {2}}},
		{"a round of one", function("f", "v", "", to(0, nop())), [][]int{{0}}},
		{"a round", function("f", "v", "", nop(), nop(), to(0, nop())), [][]int{{0, 1, 2}}},
		{"a round behind Entry", function("f", "v", "", nop(), nop(), to(1, nop())), [][]int{{0}, {1, 2}}},
		{"a test that goes back to itself", function("f", "v", "i", nop(), cond(0, 1, 2), ret()), [][]int{{0}, {1}, {2}}},
		{"a test that goes back to Entry", function("f", "v", "i", cond(0, 0, 1), ret()), [][]int{{0}, {1}}},
		{"what isn't reached goes on to it", function("f", "v", "", nop(), ret(), to(1, nop()), to(2, nop())), [][]int{{0, 1}}},
		{"a test that isn't reached does", function("f", "v", "i", nop(), ret(), cond(0, 1, 0)), [][]int{{0, 1}}},
	} {
		if faults := faultsOf(program(r.f)); len(faults) > 0 {
			t.Errorf("%s isn't right: %v", r.what, faults)
		}
		if got := same.Blocks(r.f); !reflect.DeepEqual(got, r.want) {
			t.Errorf("%s: %v, not %v", r.what, got, r.want)
		}
	}
}

// blocksOf are the rows, as the document has them.
func blocksOf(f api.Graph) [][]int {
	order := orderOf(f)
	begins := func(n int) bool {
		if n == f.Entry {
			return true
		}
		from := 0
		for _, k := range order {
			next := nextOf(f.Code[k])
			if len(next) == 2 && slices.Contains(next, n) {
				return true
			}
			if slices.Contains(next, n) {
				from++
			}
		}
		return from > 1
	}
	var rows [][]int
	for _, n := range order {
		if !begins(n) {
			continue
		}
		row := []int{n}
		for next := nextOf(f.Code[n]); len(next) == 1 && !begins(next[0]); next = nextOf(f.Code[next[0]]) {
			row = append(row, next[0])
		}
		rows = append(rows, row)
	}
	return rows
}

// P17.4: the rows of grown graphs.
func TestBlocksOfGrown(t *testing.T) {
	sizes := map[int]int{}
	for seed := range 1000 {
		_, p := grownProgram(seed)
		for _, f := range p.Funcs {
			got := same.Blocks(f)
			if want := blocksOf(f); !reflect.DeepEqual(got, want) {
				t.Fatalf("seed %d, %s: %v, not %v", seed, f.Name, got, want)
			}
			for _, row := range got {
				sizes[min(len(row), 5)]++
			}
		}
	}
	if len(sizes) != 5 || sizes[1] > 2*sizes[5] {
		t.Errorf("rows of these sizes: %v", sizes)
	}
}

// P17.4: very long rows, and very many.
func TestLongBlocks(t *testing.T) {
	const n = 1 << 17
	var code []api.Instr
	for range n {
		code = append(code, nop())
	}
	if got := same.Blocks(function("f", "v", "", append(code, ret())...)); len(got) != 1 || len(got[0]) != n+1 {
		t.Errorf("%d rows", len(got))
	}
	for i := range code {
		code[i] = cond(0, i+1, n)
	}
	got := same.Blocks(function("f", "v", "i", append(code, ret())...))
	for i, row := range got {
		if !slices.Equal(row, []int{i}) {
			t.Fatalf("row %d is %v", i, row)
		}
	}
	if len(got) != n+1 {
		t.Errorf("%d rows", len(got))
	}
}

// P17.2, P17.4: what becomes of the row of a function of the Sig iilldv with a frame of 16 bytes, whose registers are iilldiiilldd, the first five the parameters.
func TestSame(t *testing.T) {
	add := func(dst, x, y int) api.Instr { return op(dst, api.OpAdd, x, y) }
	move := func(dst, from int) api.Instr { return op(dst, api.OpMove, from) }
	all := func(code ...api.Instr) []api.Instr { return code }
	for _, r := range []struct {
		what       string
		code, want []api.Instr
	}{
		{"the same again", all(add(5, 0, 1), add(6, 0, 1)), all(add(5, 0, 1), move(6, 5))},
		{"and a third time", all(add(5, 0, 1), add(6, 0, 1), add(7, 0, 1)), all(add(5, 0, 1), move(6, 5), move(7, 5))},
		{"into the same register", all(add(5, 0, 1), add(5, 0, 1)), all(add(5, 0, 1), move(5, 5))},
		{"another operation", all(add(5, 0, 1), op(6, api.OpSub, 0, 1)), all(add(5, 0, 1), op(6, api.OpSub, 0, 1))},
		{"of Long", all(op(8, api.OpAdd+api.OfLong, 2, 3), op(9, api.OpAdd+api.OfLong, 2, 3)), all(op(8, api.OpAdd+api.OfLong, 2, 3), move(9, 8))},
		{"the other way round", all(add(5, 0, 1), add(6, 1, 0)), all(add(5, 0, 1), add(6, 1, 0))},
		{"an operation of one", all(op(5, api.OpNeg, 0), op(6, api.OpNeg, 0), op(7, api.OpNeg, 1)), all(op(5, api.OpNeg, 0), move(6, 5), op(7, api.OpNeg, 1))},
		{"with a number", all(opN(5, api.OpAdd, 0, 4), opN(6, api.OpAdd, 0, 5), opN(7, api.OpAdd, 0, 4)), all(opN(5, api.OpAdd, 0, 4), opN(6, api.OpAdd, 0, 5), move(7, 5))},
		{"an Arg that was set", all(add(5, 0, 1), num(0, i32(3)), add(6, 0, 1)), all(add(5, 0, 1), num(0, i32(3)), add(6, 0, 1))},
		{"an Arg that was set to what it was", all(move(7, 0), add(5, 0, 1), num(0, i32(3)), move(0, 7), add(6, 0, 1)), all(move(7, 0), add(5, 0, 1), num(0, i32(3)), move(0, 7), move(6, 5))},
		{"an Arg's copy", all(move(7, 0), add(5, 0, 1), add(6, 7, 1)), all(move(7, 0), add(5, 0, 1), move(6, 5))},
		{"an Arg that is set by it", all(add(0, 0, 1), add(0, 0, 1), add(5, 0, 1)), all(add(0, 0, 1), add(0, 0, 1), add(5, 0, 1))},
		{"a Dst that was set", all(add(5, 0, 1), num(5, i32(3)), add(6, 0, 1)), all(add(5, 0, 1), num(5, i32(3)), add(6, 0, 1))},
		{"whose value is still in another register", all(add(5, 0, 1), move(7, 5), num(5, i32(3)), add(6, 0, 1)), all(add(5, 0, 1), move(7, 5), num(5, i32(3)), move(6, 7))},
		{"or is back", all(add(5, 0, 1), num(5, i32(3)), add(6, 0, 1), add(7, 0, 1), add(5, 0, 1)), all(add(5, 0, 1), num(5, i32(3)), add(6, 0, 1), move(7, 6), move(5, 6))},
		{"or in the Dst itself", all(add(5, 0, 1), move(6, 5), add(6, 0, 1)), all(add(5, 0, 1), move(6, 5), move(6, 6))},
		{"numbers are the same", all(num(5, i32(3)), num(6, i32(3)), add(7, 0, 5), add(1, 0, 6)), all(num(5, i32(3)), num(6, i32(3)), add(7, 0, 5), move(1, 7))},
		{"but not of other bits", all(num(10, f64(0)), num(11, f64(1<<63)), op(4, api.OpAddD, 4, 10), op(10, api.OpAddD, 4, 11)), all(num(10, f64(0)), num(11, f64(1<<63)), op(4, api.OpAddD, 4, 10), op(10, api.OpAddD, 4, 11))},
		{"nor of another kind", all(num(5, i32(3)), num(8, i64(3)), op(6, api.OpTruth, 5), op(7, api.OpTruth, 8)), all(num(5, i32(3)), num(8, i64(3)), op(6, api.OpTruth, 5), op(7, api.OpTruth, 8))},
		{"made of the same", all(add(5, 0, 1), add(6, 0, 1), op(7, api.OpMul, 5, 5), op(0, api.OpMul, 6, 5)), all(add(5, 0, 1), move(6, 5), op(7, api.OpMul, 5, 5), move(0, 7))},
		{"addresses", all(global(8, "ga", 4), global(9, "ga", 4), global(2, "ga", 8), global(3, "gi", 4)), all(global(8, "ga", 4), move(9, 8), global(2, "ga", 8), global(3, "gi", 4))},
		{"addresses in the frame", all(frame(8, 4), frame(9, 4), frame(2, 8)), all(frame(8, 4), move(9, 8), frame(2, 8))},
		{"loads", all(load(5, api.C32, 2, 4), load(6, api.C32, 2, 4), load(7, api.C32, 2, 8)), all(load(5, api.C32, 2, 4), move(6, 5), load(7, api.C32, 2, 8))},
		{"of another chunk", all(load(5, api.C8S, 2, 0), load(6, api.C8U, 2, 0)), all(load(5, api.C8S, 2, 0), load(6, api.C8U, 2, 0))},
		{"of another address", all(load(5, api.C32, 2, 0), load(6, api.C32, 3, 0)), all(load(5, api.C32, 2, 0), load(6, api.C32, 3, 0))},
		{"of the same one", all(load(5, api.C32, 2, 0), move(3, 2), load(6, api.C32, 3, 0)), all(load(5, api.C32, 2, 0), move(3, 2), move(6, 5))},
		{"of what was loaded alike", all(load(8, api.C64, 2, 0), load(9, api.C64, 2, 0), load(5, api.C32, 8, 4), load(6, api.C32, 9, 4)), all(load(8, api.C64, 2, 0), move(9, 8), load(5, api.C32, 8, 4), move(6, 5))},
		{"a store between", all(load(5, api.C32, 2, 0), store(api.C32, 3, 0, 0), load(6, api.C32, 2, 0), load(7, api.C32, 2, 0)), all(load(5, api.C32, 2, 0), store(api.C32, 3, 0, 0), load(6, api.C32, 2, 0), move(7, 6))},
		{"a call between", all(load(5, api.C32, 2, 0), call(-1, "show", "iv", 0), load(6, api.C32, 2, 0)), all(load(5, api.C32, 2, 0), call(-1, "show", "iv", 0), load(6, api.C32, 2, 0))},
		{"operations with a store between", all(add(5, 0, 1), store(api.C32, 2, 0, 0), add(6, 0, 1)), all(add(5, 0, 1), store(api.C32, 2, 0, 0), move(6, 5))},
		{"operations with a call between", all(add(5, 0, 1), call(-1, "show", "iv", 0), add(6, 0, 1)), all(add(5, 0, 1), call(-1, "show", "iv", 0), move(6, 5))},
		{"a call that sets an Arg", all(add(5, 0, 1), call(0, "int", "ii", 0), add(6, 0, 1)), all(add(5, 0, 1), call(0, "int", "ii", 0), add(6, 0, 1))},
		{"a call that sets the Dst", all(add(5, 0, 1), call(5, "int", "ii", 0), add(6, 0, 1)), all(add(5, 0, 1), call(5, "int", "ii", 0), add(6, 0, 1))},
		{"calls", all(call(5, "int", "ii", 0), call(6, "int", "ii", 0), add(7, 5, 5), add(0, 6, 6)), all(call(5, "int", "ii", 0), call(6, "int", "ii", 0), add(7, 5, 5), add(0, 6, 6))},
		{"moves and numbers stay", all(move(5, 0), move(5, 0), num(6, i32(1)), num(6, i32(1)), num(7, i32(1))), all(move(5, 0), move(5, 0), num(6, i32(1)), num(6, i32(1)), num(7, i32(1)))},
		{"nothing between", all(add(5, 0, 1), nop(), add(6, 0, 1)), all(add(5, 0, 1), nop(), move(6, 5))},
		{"a test between", all(add(5, 0, 1), cond(5, 2, 2), add(6, 0, 1)), all(add(5, 0, 1), cond(5, 2, 2), add(6, 0, 1))},
		{"what a way back goes to", all(add(5, 0, 1), add(6, 0, 1), cond(6, 1, 3)), all(add(5, 0, 1), add(6, 0, 1), cond(6, 1, 3))},
		{"what no way leads to", all(ret(), add(5, 0, 1), add(6, 0, 1)), all(ret(), add(5, 0, 1), add(6, 0, 1))},
		{"the document's example", all(add(6, 0, 1), add(7, 0, 1), op(5, api.OpMul, 6, 7)), all(add(6, 0, 1), move(7, 6), op(5, api.OpMul, 6, 7))},
	} {
		make := func(code []api.Instr) api.Graph {
			return framed(16, function("f", "iilldv", "iilldiiilldd", append(slices.Clone(code), ret())...))
		}
		p := program(make(r.code))
		if faults := faultsOf(p); len(faults) > 0 {
			t.Errorf("%s isn't right: %v", r.what, faults)
		}
		if got, want := same.Unit(p).Funcs[0], make(r.want); !reflect.DeepEqual(got, want) {
			t.Errorf("%s: %+v\nnot %+v", r.what, got.Code, want.Code)
		}
	}
}

// terms are what the registers of a function hold in a row, written out.
type terms struct {
	registers map[int]string
	done      map[string]bool
	fresh     int
	memory    int
}

func (m *terms) of(register int) string {
	if m.registers[register] == "" {
		m.registers[register] = m.other()
	}
	return m.registers[register]
}

// other is a term unlike all others.
func (m *terms) other() string {
	m.fresh++
	return fmt.Sprint("?", m.fresh)
}

// worked is the term of what an IOp or an ILoad works out, with small numbers in the place of long terms.
func (m *terms) worked(i api.Instr, short map[string]string) string {
	if i.Op == api.OpMove {
		return m.of(i.Args[0])
	}
	text := fmt.Sprint(i.Kind, i.Op, i.N, i.V, i.Sym, " ", i.Off, i.Chunk)
	for _, r := range i.Args {
		text += " " + m.of(r)
	}
	if i.Kind == api.ILoad {
		text += fmt.Sprint(" of memory ", m.memory)
	}
	if short[text] == "" {
		short[text] = fmt.Sprint("#", len(short))
	}
	return short[text]
}

// sameFaults tells what in a row of an answer isn't as the document has it.
func sameFaults(f, made api.Graph, row []int) []string {
	var faults []string
	m := &terms{registers: map[int]string{}, done: map[string]bool{}}
	short := map[string]string{}
	for _, n := range row {
		i, got := f.Code[n], made.Code[n]
		changed := !reflect.DeepEqual(i, got)
		switch i.Kind {
		case api.IOp, api.ILoad:
			x := m.worked(i, short)
			held := false
			for r := range f.Kinds {
				held = held || m.registers[r] == x
			}
			must := m.done[x] && held && i.Op != api.OpMove && i.Op != api.OpNum
			if changed && (got.Kind != api.IOp || got.Op != api.OpMove || got.Dst != i.Dst || got.Next != i.Next || m.registers[got.Args[0]] != x) {
				faults = append(faults, fmt.Sprintf("%d: %+v became %+v", n, i, got))
			}
			if changed != must {
				faults = append(faults, fmt.Sprintf("%d: %+v became %+v, done already: %v", n, i, got, must))
			}
			m.done[x] = true
			m.registers[i.Dst] = x
			continue
		case api.IStore:
			m.memory++
		case api.ICall:
			m.memory++
			m.registers[i.Dst] = m.other()
		}
		if changed {
			faults = append(faults, fmt.Sprintf("%d: %+v became %+v", n, i, got))
		}
	}
	return faults
}

// twice tells which instructions of a row of an answer are done again with the same registers, as P17.4 has it.
func twice(f api.Graph, row []int) []int {
	var list []int
	for p, n := range row {
		i := f.Code[n]
		if i.Kind != api.ILoad && (i.Kind != api.IOp || i.Op == api.OpMove || i.Op == api.OpNum) || slices.Contains(i.Args, i.Dst) {
			continue
		}
		for _, k := range row[p+1:] {
			j := f.Code[k]
			bare, other := i, j
			bare.Dst, bare.Next, other.Dst, other.Next = 0, 0, 0, 0
			if reflect.DeepEqual(bare, other) {
				list = append(list, k)
			}
			isSet := (j.Kind == api.IOp || j.Kind == api.ILoad || j.Kind == api.ICall) && (slices.Contains(i.Args, j.Dst) || j.Dst == i.Dst)
			if isSet || i.Kind == api.ILoad && (j.Kind == api.IStore || j.Kind == api.ICall) {
				break
			}
		}
	}
	return list
}

// P17.4: in grown functions just what was done already, and is still there, is a move; nothing is done twice.
func TestSameGrown(t *testing.T) {
	var moves, again int
	for seed := range 3000 {
		g, p := grownProgram(seed)
		for k := range p.Funcs {
			repeat(g, &p.Funcs[k])
		}
		if faults := faultsOf(p); len(faults) > 0 {
			t.Fatalf("seed %d isn't right: %v", seed, faults)
		}
		made := same.Unit(p)
		for k, f := range p.Funcs {
			got := made.Funcs[k]
			if got.Entry != f.Entry || len(got.Code) != len(f.Code) || !reflect.DeepEqual(got.Kinds, f.Kinds) {
				t.Fatalf("seed %d, %s: %+v", seed, f.Name, got)
			}
			seen := map[int]bool{}
			for _, row := range blocksOf(f) {
				for _, fault := range sameFaults(f, got, row) {
					t.Errorf("seed %d, %s, %s", seed, f.Name, fault)
				}
				if list := twice(got, row); len(list) > 0 {
					t.Errorf("seed %d, %s: %v are done twice in %v", seed, f.Name, list, row)
				}
				again += len(twice(f, row))
				for _, n := range row {
					seen[n] = true
				}
			}
			for n, i := range f.Code {
				if !seen[n] && !reflect.DeepEqual(i, got.Code[n]) {
					t.Errorf("seed %d, %s, instruction %d isn't reached", seed, f.Name, n)
				}
				if !reflect.DeepEqual(i, got.Code[n]) {
					moves++
				}
			}
		}
		if !reflect.DeepEqual(same.Unit(made), made) {
			t.Errorf("seed %d: done twice it is something else", seed)
		}
		script := []int64{int64(seed%9) - 2, 1, 0, 7}
		wantKept(t, fmt.Sprint("seed ", seed), passes()[1], p, script, 200)
		if t.Failed() {
			t.FailNow()
		}
	}
	if moves < 10000 || again < 5000 {
		t.Errorf("%d moves, %d were done twice", moves, again)
	}
}

// repeat puts instructions in again, further on, into any register of the kind.
func repeat(g *grower, f *api.Graph) {
	for range 6 {
		n := g.below(len(f.Code))
		i := f.Code[n]
		if i.Kind != api.IOp && i.Kind != api.ILoad {
			continue
		}
		at := n
		for range g.below(5) {
			if next := f.Code[at].Next; f.Code[at].Kind != api.ICond && f.Code[at].Kind != api.ITail && f.Code[at].Kind != api.IReturn {
				at = next
			}
		}
		behind := &f.Code[at]
		if behind.Kind == api.ICond || behind.Kind == api.ITail || behind.Kind == api.IReturn {
			continue
		}
		var list []int
		for r, k := range f.Kinds {
			if k == f.Kinds[i.Dst] {
				list = append(list, r)
			}
		}
		i.Dst, i.Next = oneOf(g, list...), behind.Next
		i.Args = slices.Clone(i.Args)
		behind.Next = len(f.Code)
		f.Code = append(f.Code, i)
	}
}

// P17.4: a very long row, whose values move about.
func TestSameOfMuch(t *testing.T) {
	const n = 1 << 16
	var code []api.Instr
	for i := range n {
		code = append(code, opN(1, api.OpAdd, 0, int64(i)), opN(2, api.OpAdd, 0, int64(i/2)), op(3, api.OpMove, 1))
	}
	got := same.Unit(program(function("f", "iv", "iiii", append(code, ret())...))).Funcs[0]
	for i := range n {
		first, second := got.Code[3*i], got.Code[3*i+1]
		if first.Op != api.OpAdd+api.WithN {
			t.Fatalf("%d: %+v", i, first)
		}
		// an odd number's half is that of the number ahead of it, and still there; of the first ones it is among those that were added last
		if isMove := second.Op == api.OpMove; isMove != (i < 3 || i%2 == 1) {
			t.Fatalf("%d: %+v", i, second)
		}
	}
}
