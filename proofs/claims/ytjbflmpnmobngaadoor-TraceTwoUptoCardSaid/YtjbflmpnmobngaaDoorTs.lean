/- A value's text: the reference; rows of bytes of the call's own. -/
import Derived.Test.YtjbflmpnmobngaaDoorTr
import Derived.Test.YtjbflmpnmobngaaDoorTp
import Derived.Test.YtjbflmpnmobngaaDoorTd
namespace Go.Proofs.YtjbflmpnmobngaaDoor
set_option linter.unusedSimpArgs false
set_option linter.unusedVariables false
open Go.RowKit

set_option maxRecDepth 100000 in
set_option maxHeartbeats 4000000 in
theorem valueR_any (V : V3) (hV : V.ok) (w : World) :
    Calls Tryd.prog 42 #[.agg #[.int .i64 V.k, .int .u64 V.n, .int .i64 V.b]] w fun e w' => e = .returned (.string ⟨(valT V).toArray⟩) ∧ Fresh w w' := by
  obtain ⟨k, n, b⟩ := V
  have HV := Lib.hid hV
  simp only
  clear hV
  by_cases h1 : k = 1
  · subst h1
    rw [show valT ⟨1, n, b⟩ = Lib.itoa (wrap32 n) from rfl]
    have C : Hid (∀ X x, x = wrap32 n → Calls Tryd.prog 43 #[.int .i64 x] X fun e w' => e = .returned (.string ⟨(Lib.itoa (wrap32 n)).toArray⟩) ∧ Fresh X w') := Lib.hid (fun X x hx => by rw [hx]; exact decimal_any _ (w32 n) X)
    generalize Lib.itoa (wrap32 n) = l at *
    go_enter Tryd.func42, Tryd.ntmps42
    go_wp2_with fail
    go_at_call 43; refine (C.out _ _ (by first | rfl | (unfold wrap32; omega) | (unfold wrap64 wrap32; omega))).mono ?_; rintro e w1 ⟨rfl, k1⟩
    go_wp2_with fail
    go_returns
    exact ⟨rfl, (by (repeat' first | with_reducible exact Fresh.refl _ | with_reducible assumption | with_reducible refine Fresh.alloc ?_ _ _ | with_reducible refine Fresh.drew ?_ | with_reducible refine Fresh.drewN ?_ _ | with_reducible refine Fresh.setCell ?_ ?_ _ | with_reducible refine Fresh.trans ?_ (by assumption) | (simp; done) | (simp; omega)))⟩
  by_cases h2 : k = 2
  · subst h2
    rw [show valT ⟨2, n, b⟩ = Lib.itoa (wrap64 n) ++ [76] from rfl]
    have C : Hid (∀ X x, x = wrap64 n → Calls Tryd.prog 43 #[.int .i64 x] X fun e w' => e = .returned (.string ⟨(Lib.itoa (wrap64 n)).toArray⟩) ∧ Fresh X w') := Lib.hid (fun X x hx => by rw [hx]; exact decimal_any _ (w64 n) X)
    have HL : Hid ((Lib.itoa (wrap64 n)).length ≤ 21) := Lib.hid (Lib.itoa_length_le (wrap64 n) (w64 _).1 (w64 _).2)
    generalize Lib.itoa (wrap64 n) = l at *
    have c1 : ¬ 9223372036854775807 < l.length + 1 := by have := HL.out; omega
    have KEY : Hid ((⟨l.toArray⟩ : ByteArray) ++ ⟨#[76]⟩ = ⟨(l ++ [76]).toArray⟩) := Lib.hid (eqB (by rw [catB]))
    go_enter Tryd.func42, Tryd.ntmps42
    go_wp2_with fail
    go_at_call 43; refine (C.out _ _ (by first | rfl | (unfold wrap64; omega))).mono ?_; rintro e w1 ⟨rfl, k1⟩
    go_wp2_with fail
    go_returns
    exact ⟨congrArg (fun b => Ending.returned (.string b)) KEY.out, (by (repeat' first | with_reducible exact Fresh.refl _ | with_reducible assumption | with_reducible refine Fresh.alloc ?_ _ _ | with_reducible refine Fresh.drew ?_ | with_reducible refine Fresh.drewN ?_ _ | with_reducible refine Fresh.setCell ?_ ?_ _ | with_reducible refine Fresh.trans ?_ (by assumption) | (simp; done) | (simp; omega)))⟩
  by_cases h3 : k = 3
  · subst h3
    obtain ⟨U, rfl⟩ : ∃ U : Nat, n = U := ⟨n.toNat, by have := HV.out.1; simp only at this; omega⟩
    have hU : U < 18446744073709551616 := by have := HV.out.2; simp only at this; omega
    exact valueR_hex U b hU w
  by_cases h4 : k = 4
  · subst h4
    rw [show valT ⟨4, n, b⟩ = [112, 116, 114] from rfl]
    go_enter Tryd.func42, Tryd.ntmps42
    go_wp2_with fail
    go_returns
    exact ⟨rfl, (by (repeat' first | with_reducible exact Fresh.refl _ | with_reducible assumption | with_reducible refine Fresh.alloc ?_ _ _ | with_reducible refine Fresh.drew ?_ | with_reducible refine Fresh.drewN ?_ _ | with_reducible refine Fresh.setCell ?_ ?_ _ | with_reducible refine Fresh.trans ?_ (by assumption) | (simp; done) | (simp; omega)))⟩
  · have he : valT ⟨k, n, b⟩ = [117, 110, 100, 101, 102] := by simp [valT, h1, h2, h3, h4]
    rw [he]
    go_enter Tryd.func42, Tryd.ntmps42
    go_wp2_with fail
    go_returns
    exact ⟨rfl, (by (repeat' first | with_reducible exact Fresh.refl _ | with_reducible assumption | with_reducible refine Fresh.alloc ?_ _ _ | with_reducible refine Fresh.drew ?_ | with_reducible refine Fresh.drewN ?_ _ | with_reducible refine Fresh.setCell ?_ ?_ _ | with_reducible refine Fresh.trans ?_ (by assumption) | (simp; done) | (simp; omega)))⟩
/-- A row of bytes of the call's own. -/
structure Rw (w X : World) (v : Value) (l : List UInt8) : Prop where
  own : X.ownsRow w.heap.size 5 1 v l.length (Lib.byteCells l)
  b : Below w.heap.size w X
theorem own_belowT {w w' : World} (k : Below w.heap.size w w') {base : Nat} {e : TypeId} {size : Nat} {v : Value} {n : Nat} {xs : List Value} (h : w.ownsRow base e size v n xs) : w'.ownsRow base e size v n xs :=
  h.kept (row := none) ⟨k.os, k.tape, k.output, k.size, fun i hi _ => k.block i hi⟩ (by cases hv : v.ownBlock <;> simp)
theorem Rw.later {w X Y : World} {v : Value} {l : List UInt8} (h : Rw w X v l) (k : Below X.heap.size X Y) : Rw w Y v l := ⟨own_belowT k h.own, h.b.trans (k.mono h.b.size)⟩
/-- What is no row of bytes stays. -/
def Keeps (X Y : World) : Prop := ∀ c t cs, t ≠ 5 → Box X c t cs → Box Y c t cs
theorem Rw.keeps {w X Y : World} {v : Value} {l : List UInt8} (h : Rw w X v l) (hg : X.grownBy Y v.ownBlock) : Keeps X Y := fun c t cs ht hb => by
  refine (hg.block c hb.lt (fun e => ?_)).trans hb
  rcases h.own.2 with ⟨rfl, _⟩ | ⟨g, cap, cur, rfl, -, hh, -⟩
  · cases e
  · have e' : c = g := Option.some.inj e
    subst e'
    have h2 : X.heap[c]? = some (.cells cs t (0, 0)) := hb
    rw [hh] at h2
    injection h2 with h2
    injection h2 with _ h3
    exact ht h3.symm
theorem wp_strR {ops : Array Oper} {rest : List Oper} {o : Oper} {a : Act} {Q : Exit → Act → World → Prop} {X : World} (hgd : o.guard = none) (sl x : Operand) (ho : o.op = .call { callee := .builtin .append, args := #[sl, x], argTypes := #[59, 9] })
    {w : World} (v : Value) (l : List UInt8) (hs : a.eval sl = v) (h : Rw w X v l) (s : ByteArray) (hx : a.eval x = .string s) (hfit : l.length + s.data.toList.length ≤ 140737488355328)
    (k : ∀ v' X', Rw w X' v' (l ++ s.data.toList) → Keeps X X' → wpList Tryd.prog ops Q rest (a.put o.dst v') X') : wpList Tryd.prog ops Q (o :: rest) a X := by
  have e := sizeB s
  refine wp_str_wide hgd sl x ho w.heap.size v l.length (Lib.byteCells l) hs h.own s hx (by omega) h.b.size (fun v' X' h1 h2 => ?_)
  refine k v' X' ⟨?_, h.b.grown h2 h.b.size (fun g hg => (h.own.lt g hg).1)⟩ (h.keeps h2)
  rw [List.length_append, ← e, Lib.byteCells_append]
  exact h1
theorem wp_bytR {ops : Array Oper} {rest : List Oper} {o : Oper} {a : Act} {Q : Exit → Act → World → Prop} {X : World} (hgd : o.guard = none) (sl x : Operand) (ho : o.op = .call { callee := .builtin .append, args := #[sl, x], argTypes := #[59, 59] })
    {w : World} (v : Value) (l : List UInt8) (hs : a.eval sl = v) (h : Rw w X v l) (t : List UInt8) (B n c : Nat) (hx : a.eval x = .slice (some ⟨B, 0, none⟩) n c) (hn : n = t.length) (hc : ∀ j u, (Lib.byteCells t)[j]? = some u → X.cell? ((⟨B, 0, none⟩ : Addr).add j) = some u) (hfit : l.length + t.length ≤ 140737488355328)
    (k : ∀ v' X', Rw w X' v' (l ++ t) → Keeps X X' → wpList Tryd.prog ops Q rest (a.put o.dst v') X') : wpList Tryd.prog ops Q (o :: rest) a X := by
  obtain ⟨i0, hi, hz0, hz1, hz2⟩ := info_parts info5
  subst hn
  refine wpList_append_own_wide X hgd sl x 59 ho w.heap.size 5 i0 (.int .u8 0) 1 1 Tryd.underlying59 hi hz0 hz1 hz2 rfl (by decide) v l.length (Lib.byteCells l) hs h.own ⟨B, 0, none⟩ t.length c (Lib.byteCells t) hx (by rw [Lib.byteCells_length, Nat.mul_one]) hc ?_ (by unfold maxLen; omega) (by omega) h.b.size (fun v' X' h1 h2 _ => ?_)
  · intro u hu
    obtain ⟨b, -, rfl⟩ := List.mem_map.1 hu
    rfl
  · refine k v' X' ⟨?_, h.b.grown h2 h.b.size (fun g hg => (h.own.lt g hg).1)⟩ (h.keeps h2)
    rw [List.length_append, Lib.byteCells_append]
    exact h1
theorem new_bytes (X : World) (t : List UInt8) (cs : Array Value) (hcs : cs.toList = Lib.byteCells t) : ∀ j u, (Lib.byteCells t)[j]? = some u → (X.alloc (.cells cs 5)).cell? ((⟨X.heap.size, 0, none⟩ : Addr).add j) = some u := fun j u hu => by
  rw [Go.WideShapes.add_plain, Nat.zero_add, World.cell?_alloc_at _ _ _ _ rfl, ← hu, ← hcs]
  simp
end Go.Proofs.YtjbflmpnmobngaaDoor
