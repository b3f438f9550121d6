/- A builder of the call's own: what it leaves as it is. -/
import Derived.Test.YtjbflmpnmobngaaDoorTn
import Derived.Test.YtjbflmpnmobngaaDoorDh
import Derived.Lib.OthersKept
import Derived.Deep.DeepAppendWide
namespace Go.Proofs.YtjbflmpnmobngaaDoor
set_option linter.unusedSimpArgs false
set_option linter.unusedVariables false
open Go.RowKit
open World (ownsRowF_of)

theorem sizeB (a : ByteArray) : a.size = a.data.toList.length := by rw [Array.length_toList]; rfl
theorem Bld.lat {R b : Nat} {bs : List Value} {w w' : World} (h : Bld R b bs w) (hf : Below w.heap.size w w') : Bld R b bs w' := by
  obtain ⟨p, v, hp, hb, hown, hne⟩ := h
  have hlt : b < w.heap.size := by
    rcases Nat.lt_or_ge b w.heap.size with q | q
    · exact q
    · simp [Array.getElem?_eq_none q] at hb
  exact ⟨p, v, hp, (hf.block b hlt).trans hb, hown.kept (row := none) ⟨hf.os, hf.tape, hf.output, hf.size, fun k hk _ => hf.block k hk⟩ (by by_cases q : v.ownBlock = none; exact Or.inl q; exact Or.inr q), hne⟩
/-- A block of cells of this type. -/
def Box (w : World) (c : Nat) (t : TypeId) (cs : Array Value) : Prop := w.heap[c]? = some (.cells cs t (0, 0))
theorem Box.new (w : World) (cs : Array Value) (t : TypeId) : Box (w.alloc (.cells cs t)) w.heap.size t cs := heap_alloc_new w _
theorem Box.lt {w : World} {c : Nat} {t : TypeId} {cs : Array Value} (h : Box w c t cs) : c < w.heap.size := (Array.getElem?_eq_some_iff.1 h).1
theorem Box.kept {w w' : World} {c b : Nat} {t : TypeId} {cs : Array Value} (h : Box w c t cs) (k : Lib.OthersKept 5 (some b) w w') (hb : c ≠ b) (ht : t ≠ 5) : Box w' c t cs :=
  k c _ h (fun e => hb (Option.some.inj e)) (fun _ _ e => ht (by injection e))
theorem Box.later {w w' : World} {c : Nat} {t : TypeId} {cs : Array Value} (h : Box w c t cs) (hf : Below w.heap.size w w') : Box w' c t cs := (hf.block c h.lt).trans h
theorem below_kept {w w' : World} (h : Below w.heap.size w w') (e : TypeId) (b : Option Nat) : Lib.OthersKept e b w w' := fun k o hk _ _ => by
  have hlt : k < w.heap.size := (Array.getElem?_eq_some_iff.1 hk).1
  exact (h.block k hlt).trans hk
/-- A row of bytes in a new block. -/
theorem new_row {w : World} {R need cap : Nat} {xs : List Value} (hx : xs.length = need) (hR : R ≤ w.heap.size) (hc : need ≤ cap) (hm : cap ≤ maxLen) :
    (w.alloc (.cells (xs.toArray ++ Builtin.zeroCells (Value.int .u8 0).cells (cap - need)) 5)).ownsRow R 5 1 (.slice (some ⟨w.heap.size, 0, none⟩) need cap) need xs := by
  refine ⟨by simpa using hx, Or.inr ⟨w.heap.size, cap, _, rfl, hR, heap_alloc_new w _, hc, hm, ?_, ?_⟩⟩
  · have h1 : (Value.int IntKind.u8 0).cells.size = 1 := rfl
    rw [Array.size_append, size_zeroCells, h1, List.size_toArray, hx]
    omega
  · rw [Array.toList_append, Nat.mul_one, ← hx]
    exact List.take_left
theorem run_str_wide (R : Nat) (ty : TypeId) (v : Value) (n : Nat) (xs : List Value) (w : World) (hown : w.ownsRow R 5 1 v n xs) (s : ByteArray) (hfit : n + s.size + (n + s.size) / 4 + 192 ≤ 281474976710656) (hR : R ≤ w.heap.size) :
    ∃ v' w', (Builtin.append_ #[59, 9] ty #[v, .string s]).run Tryd.prog w = .ok v' w' ∧ w'.ownsRow R 5 1 v' (n + s.size) (xs ++ Lib.strCells s) ∧ w.grownBy w' v.ownBlock := by
  obtain ⟨i0, hi, hz0, hz1, hz2⟩ := info_parts info5
  have hm : n + s.size ≤ maxLen := by unfold maxLen; omega
  rcases Nat.lt_or_ge 140737488355328 (n + s.size) with big | small
  · have hxl : xs.length = n := by simpa using hown.1
    have hl : (xs ++ Lib.strCells s).length = n + s.size := by rw [List.length_append, hxl, Lib.strCells_length]
    have made : ∀ old, (w.drew.alloc (.cells (xs.toArray ++ (Lib.strCells s).toArray ++ Builtin.zeroCells (Value.int .u8 0).cells (grownCap w (n + s.size) old 5 - (n + s.size))) 5)).ownsRow R 5 1 (.slice (some ⟨w.heap.size, 0, none⟩) (n + s.size) (grownCap w (n + s.size) old 5)) (n + s.size) (xs ++ Lib.strCells s) := fun old => by
      have := new_row (w := w.drew) (R := R) (need := n + s.size) (cap := grownCap w (n + s.size) old 5) hl hR (grownCap_ge w _ old 5) (grownCap_le_maxLen w _ old 5 hm)
      rw [show (xs ++ Lib.strCells s).toArray = xs.toArray ++ (Lib.strCells s).toArray from Array.ext' (by simp)] at this
      exact this
    have keeps : ∀ (o : Obj) (row : Option Nat), w.grownBy (w.drew.alloc o) row := fun o row => ⟨rfl, rfl, rfl, by simp, fun k hk _ => Lib.alloc_old w.drew o k hk⟩
    rcases hown.2 with ⟨rfl, rfl⟩ | ⟨g, cap, cur, rfl, hbg, hg, hnc, hcm, hcs, htake⟩
    · obtain rfl : xs = [] := List.eq_nil_of_length_eq_zero hxl
      have hr := run_append_nil_string (P := Tryd.prog) w 59 9 ty 5 i0 (.int .u8 0) Tryd.underlying59 Tryd.underlying9 hi hz0 s (by omega) (by omega) (by rw [hz2]; omega)
      have hc : (s.data.map fun b => Value.int .u8 b.toNat) = (Lib.strCells s).toArray := Array.ext' (by simp [Lib.strCells])
      have mk := made 0
      rw [hc] at hr
      simp only [Nat.zero_add, List.nil_append, Array.empty_append] at mk ⊢
      exact ⟨_, _, hr, mk, keeps _ _⟩
    · by_cases room : n + s.size ≤ cap
      · have hcz : cur.size = cap := by simpa using hcs
        have htk : cur.toList.take n = xs := by simpa using htake
        have hr := Lib.run_append_room_string (P := Tryd.prog) w 59 9 ty 5 i0 Tryd.underlying59 Tryd.underlying9 hi hz1 g n cap cur hg s room (by omega)
        refine ⟨_, _, hr, ⟨by rw [hl, Nat.mul_one], Or.inr ⟨g, cap, _, rfl, hbg, setRow_heap w g cur _ 5 _ hg, room, hcm, ?_, ?_⟩⟩, ⟨rfl, rfl, rfl, by simp, fun k _ hk => setRow_other w g k _ (fun e => hk (by rw [e]; rfl))⟩⟩
        · rw [List.size_toArray, List.length_append, List.length_append, List.length_take, List.length_drop, Array.length_toList, Lib.strCells_length]
          omega
        · rw [htk, Nat.mul_one, ← hl]
          exact List.take_left
      · have hr := Lib.run_append_grow_string (P := Tryd.prog) w 59 9 ty 5 i0 (.int .u8 0) Tryd.underlying59 Tryd.underlying9 hi hz0 ⟨g, 0, none⟩ n cap xs (by rw [hz1]; simpa using hxl) (hown.cells (g := g) rfl) s (by omega) (by omega) (by rw [hz2]; exact growslice_fits_wide (by omega) (by omega))
        exact ⟨_, _, hr, made cap, keeps _ _⟩
  · obtain ⟨v', w', h1, h2, h3, -⟩ := Lib.run_append_own_string (P := Tryd.prog) w R 59 9 ty 5 i0 Tryd.underlying59 Tryd.underlying9 hi hz0 hz1 hz2 v n xs hown s hm small hR
    exact ⟨v', w', h1, h2, h3⟩
theorem wp_str_wide {ops : Array Oper} {rest : List Oper} {o : Oper} {a : Act} {Q : Exit → Act → World → Prop} {w : World} (hgd : o.guard = none) (sl x : Operand) (ho : o.op = .call { callee := .builtin .append, args := #[sl, x], argTypes := #[59, 9] })
    (R : Nat) (v : Value) (n : Nat) (xs : List Value) (hs : a.eval sl = v) (hown : w.ownsRow R 5 1 v n xs) (s : ByteArray) (hx : a.eval x = .string s) (hfit : n + s.size + (n + s.size) / 4 + 192 ≤ 281474976710656) (hR : R ≤ w.heap.size)
    (h : ∀ v' w', w'.ownsRow R 5 1 v' (n + s.size) (xs ++ Lib.strCells s) → w.grownBy w' v.ownBlock → wpList Tryd.prog ops Q rest (a.put o.dst v') w') : wpList Tryd.prog ops Q (o :: rest) a w := by
  refine wpList_plain hgd fun K hK => ?_
  obtain ⟨v', w', hr, h2, h3⟩ := run_str_wide R o.type v n xs w hown s hfit hR
  unfold Oper.wp execOp
  simp only [ho, resolve, invoke, builtin, Sem.run_bind, Sem.run_pure, Result.andThen_ok, List.map_toArray, List.map_cons, List.map_nil, hs, hx, hr]
  exact hK _ _ (h v' w' h2 h3)
theorem check_k (R b : Nat) (bs : List Value) (w : World) (h : Bld R b bs w) :
    Calls Tryd.prog 45 #[.pointer (some ⟨b, 0, none⟩)] w fun e w' => e = .returned (.tuple #[]) ∧ (∃ v, w'.heap[b]? = some (.cells #[.pointer (some ⟨b, 0, none⟩), v] 61 (0, 0)) ∧ w'.ownsRow R 5 1 v bs.length bs ∧ v.ownBlock ≠ some b) ∧ Kp R b w w' ∧ Lib.OthersKept 5 (some b) w w' := by
  obtain ⟨p, v, hp, hb, hown, hne⟩ := h
  rcases hp with rfl | rfl
  · refine (check_new b w (by rw [Lib.cell_of_heap hb]; rfl) (by simp [World.shape?, hb]) (Lib.frozen_of_heap hb 0)).mono ?_
    rintro e w' ⟨rfl, rfl⟩
    refine ⟨rfl, ⟨v, by simp [World.setCell, Array.getElem?_modify, hb], ?_, hne⟩, Kp.set w 0 _, (Lib.OthersKept.refl _ _ w).setCell ⟨b, 0, none⟩ rfl _⟩
    exact hown.kept (row := some b) ⟨rfl, rfl, rfl, by simp [World.setCell], fun k _ hk => Below.heap_setCell _ _ _ _ (fun e => hk (by simp [e]))⟩ (Or.inr hne)
  · refine (check_old b w (by rw [Lib.cell_of_heap hb]; rfl)).mono ?_
    rintro e w' ⟨rfl, rfl⟩
    exact ⟨rfl, ⟨v, hb, hown, hne⟩, Kp.refl _ _ _, Lib.OthersKept.refl _ _ _⟩
set_option maxHeartbeats 2000000 in
set_option maxRecDepth 100000 in
theorem byte_k (R b : Nat) (bs : List Value) (c : Int) (w : World) (h : Bld R b bs w) (hlen : bs.length + 1 ≤ 225179981361972) (hBw : R ≤ w.heap.size) :
    Calls Tryd.prog 40 #[.pointer (some ⟨b, 0, none⟩), .int .u8 c] w fun e w' => e = .returned .nilIface ∧ Bld R b (bs ++ [.int .u8 c]) w' ∧ Kp R b w w' ∧ Lib.OthersKept 5 (some b) w w' := by
  obtain ⟨i0, hi, hz0, hz1, hz2⟩ := info_parts info5
  go_enter Tryd.func40, Tryd.ntmps40
  go_wp2_with (go_at_call 45; refine (check_k R b bs _ h).mono ?_)
  rintro e w1 ⟨rfl, h1, hb1, hk1⟩
  have HK1 := Lib.hid hk1
  clear hk1
  obtain ⟨v, hbk, hown, hne⟩ := h1
  have c0 : w1.cell? ⟨b, 0, none⟩ = some (.pointer (some ⟨b, 0, none⟩)) := by rw [Lib.cell_of_heap hbk]; rfl
  have c1 : w1.cell? ⟨b, 1, none⟩ = some v := by rw [Lib.cell_of_heap hbk]; rfl
  go_wp2_with (at_builtin; refine wpList_append_own_wide _ rfl _ _ 59 rfl R 5 i0 (.int .u8 0) 1 1 Tryd.underlying59 hi hz0 hz1 hz2 rfl (by decide) _ _ _ rfl (hown.alloc _) ⟨w1.heap.size, 0, none⟩ 1 1 [.int .u8 c] rfl rfl ?c1 ?c2 ?c3 ?c4 ?c5 ?_)
  case c1 =>
    intro j u hj
    match j, hj with
    | 0, hj => simp at hj; subst hj; simp [Addr.add]
  case c2 => intro u hu; simp at hu; subst hu; rfl
  case c3 => unfold maxLen; omega
  case c4 => omega
  case c5 => have := hb1.size; simp; omega
  intro v' w2 hown' hgrow _
  have hlt : b < w1.heap.size := cell_lt c0
  have hb2 : w2.heap[b]? = some (.cells #[.pointer (some ⟨b, 0, none⟩), v] 61 (0, 0)) := by
    rw [hgrow.block b (by simp; omega) (fun e => hne e.symm), Lib.alloc_old w1 _ b hlt]
    exact hbk
  have d0 : w2.cell? ⟨b, 0, none⟩ = some (.pointer (some ⟨b, 0, none⟩)) := by rw [Lib.cell_of_heap hb2]; rfl
  have d1 : w2.cell? ⟨b, 1, none⟩ = some v := by rw [Lib.cell_of_heap hb2]; rfl
  have f1 : w2.frozen? ⟨b, 1, none⟩ = false := Lib.frozen_of_heap hb2 1
  obtain ⟨g, cap, rfl⟩ : ∃ g cap, v' = .slice (some ⟨g, 0, none⟩) (bs.length + 1) cap := by
    rcases hown'.2 with ⟨_, h0⟩ | ⟨g, cap, cur, hv, _⟩
    · omega
    · exact ⟨g, cap, hv⟩
  go_wp2
  go_ret
  refine ⟨rfl, Bld.put hb2 (bs := bs ++ [.int .u8 c]) (by simpa using hown'), ?_, ?_⟩
  rotate_left 1
  · exact (((HK1.out.alloc _).grown hgrow (fun g hg => by
      obtain ⟨c, fz, hh⟩ := Lib.ownsRowF_kind (World.ownsRowF_of hown) g hg
      exact ⟨c, fz, (Lib.alloc_old w1 _ g (hown.lt g hg).2).trans hh⟩)).setCell ⟨b, 1, none⟩ rfl _)
  exact ((hb1.trans (Kp.fresh ((Fresh.refl w1).alloc _ _) (by have := hb1.size; omega))).trans (Kp.grown hgrow (fun k hk => (hown.lt k hk).1) (by have := hb1.size; simp; omega))).trans (Kp.set w2 1 _)
set_option maxHeartbeats 2000000 in
set_option maxRecDepth 100000 in
theorem str_k (R b : Nat) (bs : List Value) (s : ByteArray) (w : World) (h : Bld R b bs w) (hlen : bs.length + s.size ≤ 225179981361972) (hBw : R ≤ w.heap.size) :
    Calls Tryd.prog 38 #[.pointer (some ⟨b, 0, none⟩), .string s] w fun e w' => e = .returned (.tuple #[.int .i64 s.size, .nilIface]) ∧ Bld R b (bs ++ Lib.strCells s) w' ∧ Kp R b w w' ∧ Lib.OthersKept 5 (some b) w w' := by
  obtain ⟨i0, hi, hz0, hz1, hz2⟩ := info_parts info5
  go_enter Tryd.func38, Tryd.ntmps38
  go_wp2_with (go_at_call 45; refine (check_k R b bs _ h).mono ?_)
  rintro e w1 ⟨rfl, h1, hb1, hk1⟩
  have HK1 := Lib.hid hk1
  clear hk1
  obtain ⟨v, hbk, hown, hne⟩ := h1
  have c0 : w1.cell? ⟨b, 0, none⟩ = some (.pointer (some ⟨b, 0, none⟩)) := by rw [Lib.cell_of_heap hbk]; rfl
  have c1 : w1.cell? ⟨b, 1, none⟩ = some v := by rw [Lib.cell_of_heap hbk]; rfl
  go_wp2_with (at_builtin; refine wp_str_wide rfl _ _ rfl R _ _ _ rfl hown s rfl ?c4 ?c5 ?_)
  case c4 => omega
  case c5 => have := hb1.size; omega
  intro v' w2 hown' hgrow
  have hlt : b < w1.heap.size := cell_lt c0
  have hb2 : w2.heap[b]? = some (.cells #[.pointer (some ⟨b, 0, none⟩), v] 61 (0, 0)) := by
    rw [hgrow.block b hlt (fun e => hne e.symm)]
    exact hbk
  have d0 : w2.cell? ⟨b, 0, none⟩ = some (.pointer (some ⟨b, 0, none⟩)) := by rw [Lib.cell_of_heap hb2]; rfl
  have d1 : w2.cell? ⟨b, 1, none⟩ = some v := by rw [Lib.cell_of_heap hb2]; rfl
  have f1 : w2.frozen? ⟨b, 1, none⟩ = false := Lib.frozen_of_heap hb2 1
  obtain ⟨ao, n', cap, rfl⟩ : ∃ ao n' cap, v' = .slice ao n' cap := by
    rcases hown'.2 with ⟨hv, _⟩ | ⟨g, cap, cur, hv, _⟩
    · exact ⟨_, _, _, hv⟩
    · exact ⟨_, _, _, hv⟩
  go_wp2
  go_ret2
  refine ⟨rfl, Bld.put hb2 (bs := bs ++ Lib.strCells s) (by simpa [Lib.strCells_length] using hown'), ?_, ?_⟩
  rotate_left 1
  · exact ((HK1.out.grown hgrow (fun g hg => Lib.ownsRowF_kind (World.ownsRowF_of hown) g hg)).setCell ⟨b, 1, none⟩ rfl _)
  exact (hb1.trans (Kp.grown hgrow (fun k hk => (hown.lt k hk).1) (by have := hb1.size; omega))).trans (Kp.set w2 1 _)
structure Wro (w0 : World) (b : Nat) (bs : List UInt8) (w w' : World) : Prop where
  bld : Bld w0.heap.size b (Lib.byteCells bs) w'
  fr : Below w0.heap.size w0 w'
  kept : Lib.OthersKept 5 (some b) w w'
  hb : w0.heap.size ≤ b
theorem Wro.then {w0 w w1 X : World} {b : Nat} {bs : List UInt8} (h : Wro w0 b bs w w1) (hX : Below w1.heap.size w1 X) : Wro w0 b bs w X :=
  ⟨h.bld.lat hX, h.fr.trans (hX.mono h.fr.size), h.kept.trans (below_kept hX _ _), h.hb⟩
theorem Wro.from {w0 w X : World} {b : Nat} {bs : List UInt8} (h : Wro w0 b bs w X) : Wro w0 b bs X X := ⟨h.bld, h.fr, Lib.OthersKept.refl _ _ _, h.hb⟩
theorem Wro.trans {w0 w w1 w2 : World} {b : Nat} {bs bs' : List UInt8} (h : Wro w0 b bs w w1) (k : Wro w0 b bs' w1 w2) : Wro w0 b bs' w w2 := ⟨k.bld, k.fr, h.kept.trans k.kept, k.hb⟩
theorem Wro.step {w0 w X w' : World} {b : Nat} {bs t : List UInt8} (h : Wro w0 b bs w X) (hb : Bld w0.heap.size b (Lib.byteCells bs ++ Lib.byteCells t) w') (hk : Kp w0.heap.size b X w') (ho : Lib.OthersKept 5 (some b) X w') : Wro w0 b (bs ++ t) w w' :=
  ⟨by rw [Lib.byteCells_append]; exact hb, h.fr.trans (hk.below h.hb (Nat.le_refl _) h.fr.size), h.kept.trans ho, h.hb⟩
theorem str_w {w0 w X : World} {b : Nat} {bs : List UInt8} (s : ByteArray) (h : Wro w0 b bs w X) (hl : bs.length + s.data.toList.length ≤ 225179981361972) :
    Calls Tryd.prog 38 #[.pointer (some ⟨b, 0, none⟩), .string s] X fun e w' => e = .returned (.tuple #[.int .i64 s.size, .nilIface]) ∧ Wro w0 b (bs ++ s.data.toList) w w' ∧ Wro w0 b (bs ++ s.data.toList) X w' := by
  refine (str_k w0.heap.size b (Lib.byteCells bs) s X h.bld (by rw [Lib.byteCells_length, sizeB]; exact hl) h.fr.size).mono ?_
  rintro e w' ⟨he, hb, hk, ho⟩
  exact ⟨he, h.step hb hk ho, h.from.step hb hk ho⟩
theorem byte_w {w0 w X : World} {b : Nat} {bs : List UInt8} (c : UInt8) (h : Wro w0 b bs w X) (hl : bs.length + 1 ≤ 225179981361972) :
    Calls Tryd.prog 40 #[.pointer (some ⟨b, 0, none⟩), .int .u8 c.toNat] X fun e w' => e = .returned .nilIface ∧ Wro w0 b (bs ++ [c]) w w' ∧ Wro w0 b (bs ++ [c]) X w' := by
  refine (byte_k w0.heap.size b (Lib.byteCells bs) c.toNat X h.bld (by rw [Lib.byteCells_length]; exact hl) h.fr.size).mono ?_
  rintro e w' ⟨he, hb, hk, ho⟩
  exact ⟨he, h.step (t := [c]) hb hk ho, h.from.step (t := [c]) hb hk ho⟩
end Go.Proofs.YtjbflmpnmobngaaDoor
