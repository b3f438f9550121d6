import Derived.Test.YtlmlgdojmcmllaaRx
/- What a call of the program may touch; a visit in memory. -/
namespace Go.Proofs.Ytlmlgdojmcmllaa
set_option linter.unusedSimpArgs false
set_option linter.unusedVariables false
open Go.RowKit
open Solve

/-- All but some blocks stay. -/
structure Keep (D : Nat → Prop) (w w' : World) : Prop where
  os : w'.os = w.os
  tape : w'.tape = w.tape
  output : w'.output = w.output
  size : w.heap.size ≤ w'.heap.size
  block : ∀ k, k < w.heap.size → ¬ D k → w'.heap[k]? = w.heap[k]?
theorem Keep.refl (D : Nat → Prop) (w : World) : Keep D w w := ⟨rfl, rfl, rfl, Nat.le_refl _, fun _ _ _ => rfl⟩
theorem Keep.step {D D' : Nat → Prop} {a b c : World} (h : Keep D a b) (k : Keep D' b c) (hd : ∀ x, D' x → D x ∨ a.heap.size ≤ x) : Keep D a c :=
  ⟨k.os.trans h.os, k.tape.trans h.tape, k.output.trans h.output, Nat.le_trans h.size k.size, fun x hx hn => by
    rw [k.block x (Nat.lt_of_lt_of_le hx h.size) (fun hd' => by rcases hd x hd' with r | r; exact hn r; omega)]
    exact h.block x hx hn⟩
theorem Keep.trans {D : Nat → Prop} {a b c : World} (h : Keep D a b) (k : Keep D b c) : Keep D a c := h.step k fun _ => Or.inl
theorem Keep.mono {D D' : Nat → Prop} {a b : World} (h : Keep D a b) (hd : ∀ x, D x → D' x) : Keep D' a b := ⟨h.os, h.tape, h.output, h.size, fun x hx hn => h.block x hx fun e => hn (hd x e)⟩
theorem Keep.of {D : Nat → Prop} {a b : World} (h : Fresh a b) : Keep D a b := ⟨h.below.os, h.below.tape, h.below.output, h.below.size, fun x hx _ => h.below.block x hx⟩
theorem Keep.fresh {D : Nat → Prop} {w0 w w' : World} (h : Keep D w w') (hf : Fresh w0 w) (hd : ∀ k, D k → w0.heap.size ≤ k) : Fresh w0 w' :=
  ⟨⟨h.os.trans hf.below.os, h.tape.trans hf.below.tape, h.output.trans hf.below.output, Nat.le_trans hf.size h.size, fun k hk =>
    (h.block k (Nat.lt_of_lt_of_le hk hf.size) fun e => by have := hd k e; omega).trans (hf.below.block k hk)⟩⟩
theorem Keep.alloc {D : Nat → Prop} {a w : World} (h : Keep D a w) (c : Array Value) (t : TypeId) : Keep D a (w.alloc (.cells c t)) := h.trans (.of ((Fresh.refl w).alloc c t))
theorem Keep.drew {D : Nat → Prop} {a w : World} (h : Keep D a w) : Keep D a w.drew := h.trans (.of (Fresh.refl w).drew)
theorem Keep.drewN {D : Nat → Prop} {a w : World} (h : Keep D a w) (n : Nat) : Keep D a (w.drewN n) := h.trans (.of ((Fresh.refl w).drewN n))
theorem Keep.setCell {D : Nat → Prop} {a w : World} (h : Keep D a w) {p : Addr} (hp : D p.block) (v : Value) : Keep D a (w.setCell p v) :=
  h.trans ⟨rfl, rfl, rfl, by simp [World.setCell], fun k hk hn => Below.heap_setCell w p v k (fun e => hn (e ▸ hp))⟩
theorem Keep.grown {D : Nat → Prop} {a w w' : World} {row : Option Nat} (h : Keep D a w) (hg : w.grownBy w' row) (hr : ∀ k, row = some k → D k) : Keep D a w' :=
  h.trans ⟨hg.os, hg.tape, hg.output, hg.size, fun k hk hn => hg.block k hk fun e => hn (hr k e.symm)⟩
theorem Keep.cell {D : Nat → Prop} {w w' : World} (h : Keep D w w') {b o : Nat} {v : Value} (hb : ¬ D b) (hv : w.cell? ⟨b, o, none⟩ = some v) : w'.cell? ⟨b, o, none⟩ = some v :=
  (World.cell?_of_block (w := w) (a := ⟨b, o, none⟩) (h.block b (cell_lt hv) hb)).trans hv
theorem Keep.sts {D : Nat → Prop} {w w' : World} (h : Keep D w w') : Sts (fun b => ¬ D b) w w' := fun _ _ _ hb hv => h.cell hb hv
theorem Keep.que {D : Nat → Prop} {w w' : World} (h : Keep D w w') {base : Nat} {e : TypeId} {v : Value} {xs : List Value} (hq : Que w base e v xs) (hd : ∀ k, v.ownBlock = some k → ¬ D k) : Que w' base e v xs :=
  hq.kept fun k hk => h.block k (hq.lt k hk).2 (hd k hk)
theorem Keep.mrk {D : Nat → Prop} {w w' : World} (h : Keep D w w') {g : Nat} {t : TypeId} {b : List Bool} (hm : Mrk w g t b) (hd : ¬ D g) : Mrk w' g t b := ⟨(h.block g hm.lt hd).trans hm.blk⟩
theorem heap_lt {w : World} {b : Nat} {o : Obj} (h : w.heap[b]? = some o) : b < w.heap.size := by
  rcases Nat.lt_or_ge b w.heap.size with hlt | hge
  · exact hlt
  · rw [Array.getElem?_eq_none hge] at h; cases h

/-- Of each of n nodes whether it is in a row. -/
def inL (n : Nat) (l : List Nat) : List Bool := (List.range n).map fun i => decide (i ∈ l)
theorem inL_len (n : Nat) (l : List Nat) : (inL n l).length = n := by simp [inL]
theorem flag_inL (n : Nat) (l : List Nat) {i : Nat} (h : i < n) : flag (inL n l) i = decide (i ∈ l) := by
  simp [flag, inL, List.getD, h]
theorem inL_nil (n : Nat) : inL n [] = List.replicate n false := by
  simp [inL, List.map_const']
theorem inL_push (n : Nat) (l : List Nat) (i : Nat) : inL n (l ++ [i]) = (inL n l).set i true := by
  refine List.ext_getElem (by simp [inL]) fun j h1 h2 => ?_
  rw [List.getElem_set]
  simp only [inL, List.getElem_map, List.getElem_range, List.mem_append, List.mem_singleton]
  by_cases e : i = j
  · subst e; simp
  · rw [if_neg e]
    have : ¬ j = i := fun h => e h.symm
    simp [this]
/-- A visit's row, in a place of its own. -/
structure Vst (w : World) (V : Nat → Prop) (B n : Nat) (l : List Nat) : Prop where
  ex : ∃ M lv, w.heap[B]? = some (.cells #[lv, .slice (some ⟨M, 0, none⟩) n n] 45 (0, 0)) ∧ Mrk w M 4 (inL n l) ∧ Que w 0 3 lv (nums (ints l)) ∧ B ≠ M ∧ V B ∧ V M ∧ ∀ k, lv.ownBlock = some k → V k ∧ k ≠ B ∧ k ≠ M
  lt : ∀ k, V k → k < w.heap.size
  nd : l.Nodup
  node : ∀ i ∈ l, i < n
theorem Vst.keep {w w' : World} {V D : Nat → Prop} {B n : Nat} {l : List Nat} (h : Vst w V B n l) (hk : Keep D w w') (hd : ∀ k, V k → ¬ D k) : Vst w' V B n l := by
  obtain ⟨M, lv, h1, h2, h3, h4, h5, h6, h7⟩ := h.ex
  exact ⟨⟨M, lv, (hk.block B (heap_lt h1) (hd B h5)).trans h1, hk.mrk h2 (hd M h6), hk.que h3 fun k hk => hd k (h7 k hk).1, h4, h5, h6, h7⟩, fun k hv => Nat.lt_of_lt_of_le (h.lt k hv) hk.size, h.nd, h.node⟩
theorem Vst.fresh {w w' : World} {V : Nat → Prop} {B n : Nat} {l : List Nat} (h : Vst w V B n l) (hf : Fresh w w') : Vst w' V B n l := h.keep (D := fun _ => False) (.of hf) fun _ _ => id
theorem Vst.len {w : World} {V : Nat → Prop} {B n : Nat} {l : List Nat} (h : Vst w V B n l) : l.length ≤ n := by
  have := nat_sub (a := l) (b := List.range n) h.nd fun x hx => List.mem_range.2 (h.node x hx)
  rwa [List.length_range] at this
/-- What coming to a node makes of the row; whether it is new. -/
def isNew (n : Nat) (l : List Nat) (i : Int) : Bool := decide (0 ≤ i ∧ i < (n : Int) ∧ i.toNat ∉ l)
def comeL (n : Nat) (l : List Nat) (i : Int) : List Nat := if isNew n l i then l ++ [i.toNat] else l
end Go.Proofs.Ytlmlgdojmcmllaa


/- A new visit; whether a number is a node; to come to a node. -/
namespace Go.Proofs.Ytlmlgdojmcmllaa
set_option linter.unusedSimpArgs false
set_option linter.unusedVariables false
open Go.RowKit
open Solve

set_option maxHeartbeats 4000000 in
set_option maxRecDepth 100000 in
theorem newVisit_any (n : Nat) (hn : n ≤ 1000) (w : World) : Calls Try.prog 26 #[.int .i64 (n : Int)] w fun e w' =>
    ∃ V B, e = .returned (.pointer (some ⟨B, 0, none⟩)) ∧ Vst w' V B n [] ∧ (∀ k, V k → w.heap.size ≤ k) ∧ Fresh w w' := by
  have hmk := run_marks n hn
  have HM : Hid (∀ (cs : Array Value) (t : TypeId), Mrk ((w.alloc (.cells (List.replicate n (.bool false)).toArray 4)).alloc (.cells cs t)) w.heap.size 4 (inL n [])) := Lib.hid (fun cs t => by
    rw [inL_nil]; exact (Mrk.new w 4 n).fresh ((Fresh.refl _).alloc _ _))
  go_enter Try.func26, Try.ntmps26
  go_wp2
  go_ret
  refine ⟨fun k => k = w.heap.size ∨ k = w.heap.size + 1, w.heap.size + 1, by simp, ⟨⟨w.heap.size, .slice none 0 0, ?_, HM.out _ _, Or.inl ⟨rfl, rfl⟩, by omega, Or.inr rfl, Or.inl rfl, fun k hk => by cases hk⟩, fun k hk => ?_, List.nodup_nil, fun i hi => by simp at hi⟩, fun k hk => by omega, ((Fresh.refl w).alloc _ _).alloc _ _⟩
  · have h := heap_alloc_new (w.alloc (.cells (List.replicate n (.bool false)).toArray 4)) (.cells #[.slice none 0 0, .slice (some ⟨w.heap.size, 0, none⟩) n n] 45)
    have e : (w.alloc (.cells (List.replicate n (.bool false)).toArray 4)).heap.size = w.heap.size + 1 := by simp
    rw [e] at h
    exact h
  · simp; omega
set_option maxHeartbeats 4000000 in
theorem isNode_any (i n : Int) (w : World) : Calls Try.prog 34 #[.int .i64 i, .int .i64 n] w fun e w' => e = .returned (.bool (decide (0 ≤ i ∧ i < n))) ∧ w = w' := by
  by_cases h0 : 0 ≤ i
  · have h0' : decide (0 ≤ i) = true := by simpa using h0
    by_cases h1 : i < n
    · have h1' : decide (i < n) = true := by simpa using h1
      go_enter Try.func34, Try.ntmps34
      go_wp2
      go_ret
      exact ⟨by simp [h0, h1], rfl⟩
    · have h1' : decide (i < n) = false := by simpa using h1
      go_enter Try.func34, Try.ntmps34
      go_wp2
      go_ret
      exact ⟨by simp [h0, h1], rfl⟩
  · have h0' : decide (0 ≤ i) = false := by simpa using h0
    go_enter Try.func34, Try.ntmps34
    go_wp2
    go_ret
    exact ⟨by simp [h0], rfl⟩
def CP (V : Nat → Prop) (B n : Nat) (l l' : List Nat) (w w' : World) : Prop := ∃ V', Vst w' V' B n l' ∧ (∀ k, V' k → V k ∨ w.heap.size ≤ k) ∧ Keep V w w'
theorem Que.sl {w : World} {base : Nat} {e : TypeId} {v : Value} {xs : List Value} (h : Que w base e v xs) : ∃ q n c, v = .slice q n c := by
  rcases h with ⟨h, _⟩ | ⟨g, off, cap, cur, h, _⟩
  · exact ⟨_, _, _, h⟩
  · exact ⟨_, _, _, h⟩
theorem heap_set {w : World} {B : Nat} {cs : Array Value} {t : TypeId} (h : w.heap[B]? = some (.cells cs t (0, 0))) (o : Nat) (v : Value) : (w.setCell ⟨B, o, none⟩ v).heap[B]? = some (.cells (cs.setIfInBounds o v) t (0, 0)) := by
  simp [World.setCell, Array.getElem?_modify, h]
theorem frozen_of {w : World} {B : Nat} {cs : Array Value} {t : TypeId} (h : w.heap[B]? = some (.cells cs t (0, 0))) (o : Nat) : w.frozen? ⟨B, o, none⟩ = false := by
  simp [World.frozen?, h]
theorem vst_push {w w1 wa w2 : World} {V : Nat → Prop} {B n k M : Nat} {l : List Nat} {lv lv2 : Value} (hV : Vst w V B n l) (hk : k < n) (hn : k ∉ l) (K1 : Keep V w w1) (hB : w1.heap[B]? = some (.cells #[lv, .slice (some ⟨M, 0, none⟩) n n] 45 (0, 0))) (hM : Mrk w1 M 4 (inL n (l ++ [k])))
    (hP : V B ∧ V M ∧ B ≠ M) (hL : ∀ k, lv.ownBlock = some k → V k ∧ k ≠ B ∧ k ≠ M) (ha : Fresh w1 wa) (hq : Que w2 0 3 lv2 (nums (ints l) ++ [.int .i64 (k : Int)])) (hg : wa.grownBy w2 lv.ownBlock) (h2 : lv2.ownBlock = lv.ownBlock ∨ lv2.ownBlock = some wa.heap.size) :
    w2.cell? ⟨B, 0, none⟩ = some lv ∧ w2.frozen? ⟨B, 0, none⟩ = false ∧ CP V B n l (l ++ [k]) w (w2.setCell ⟨B, 0, none⟩ lv2) := by
  have hz := ha.size
  have hz1 := K1.size
  have hBl := heap_lt hB
  have hMl := hM.lt
  have hB2 : w2.heap[B]? = some (.cells #[lv, .slice (some ⟨M, 0, none⟩) n n] 45 (0, 0)) := by
    rw [hg.block B (by omega) (fun e => (hL B e.symm).2.1 rfl), ha.below.block B hBl]; exact hB
  have hM2 : Mrk w2 M 4 (inL n (l ++ [k])) := ⟨by
    rw [hg.block M (by omega) (fun e => (hL M e.symm).2.2 rfl), ha.below.block M hMl]; exact hM.blk⟩
  have K2 : Keep V w (w2.setCell ⟨B, 0, none⟩ lv2) := ((K1.trans (.of ha)).grown hg fun k hk => (hL k hk).1).setCell hP.1 _
  have hown : ∀ x, lv2.ownBlock = some x → (V x ∧ x ≠ B ∧ x ≠ M) ∨ x = wa.heap.size := fun x hx => by
    rcases h2 with e | e
    · exact Or.inl (hL x (e ▸ hx))
    · rw [e] at hx; injection hx with hx; exact Or.inr hx.symm
  refine ⟨by rw [cell_of_row w2 B 0 _ 45 (0, 0) hB2]; rfl, frozen_of hB2 0, fun x => V x ∨ lv2.ownBlock = some x, ⟨⟨M, lv2, heap_set hB2 0 lv2, ?_, ?_, hP.2.2, Or.inl hP.1, Or.inl hP.2.1, fun x hx => ⟨Or.inr hx, ?_⟩⟩, fun x hx => ?_, ?_, fun i hi => ?_⟩, fun x hx => ?_, K2⟩
  · exact ⟨(Below.heap_setCell _ _ _ _ hP.2.2.symm).trans hM2.blk⟩
  · rw [ints_app, nums_app]
    exact hq.set (fun e => by rcases hown _ e with r | r; exact r.2.1 rfl; exact absurd r (by simp only; omega)) _
  · rcases hown x hx with r | r
    · exact r.2
    · omega
  · rcases hx with r | r
    · exact Nat.lt_of_lt_of_le (hV.lt x r) K2.size
    · have := (hq.lt x r).2
      simp only [World.setCell, Array.size_modify]
      exact this
  · exact List.nodup_append.2 ⟨hV.nd, by simp, fun x hx y hy => by
      have : y = k := by simpa using hy
      exact fun e => hn (this ▸ e ▸ hx)⟩
  · rcases List.mem_append.1 hi with e | e
    · exact hV.node i e
    · have : i = k := by simpa using e
      rw [this]; exact hk
  · rcases hx with r | r
    · exact Or.inl r
    · rcases hown x r with r | r
      · exact Or.inl r.1
      · exact Or.inr (by omega)
theorem CP.same {V : Nat → Prop} {B n : Nat} {l : List Nat} {w : World} (h : Vst w V B n l) : CP V B n l l w w := ⟨V, h, fun _ => Or.inl, Keep.refl _ _⟩
set_option maxHeartbeats 8000000 in
set_option maxRecDepth 100000 in
theorem come_any (V : Nat → Prop) (B n : Nat) (l : List Nat) (i : Int) (w : World) (hn : n ≤ 1000) (h : Vst w V B n l) :
    Calls Try.prog 27 #[.pointer (some ⟨B, 0, none⟩), .int .i64 i] w fun e w' => e = .returned (.bool (isNew n l i)) ∧ CP V B n l (comeL n l i) w w' := by
  have HV := Lib.hid h
  have hlen := h.len
  obtain ⟨M, lv, h1, h2, h3, h4, h5, h6, h7⟩ := h.ex
  have HB := Lib.hid h1
  have HM := Lib.hid h2
  have HQ := Lib.hid h3
  have HL := Lib.hid h7
  have c0 : w.cell? ⟨B, 0, none⟩ = some lv := by rw [cell_of_row w B 0 _ 45 (0, 0) h1]; rfl
  have c1 : w.cell? ⟨B, 1, none⟩ = some (.slice (some ⟨M, 0, none⟩) n n) := by rw [cell_of_row w B 1 _ 45 (0, 0) h1]; rfl
  have HP : Hid (V B ∧ V M ∧ B ≠ M) := Lib.hid ⟨h5, h6, h4⟩
  obtain ⟨i0, hi0, hz0, hz1, hz2⟩ := info_parts int_info
  clear h h1 h2 h3 h4 h5 h6 h7
  by_cases hin : 0 ≤ i ∧ i < (n : Int)
  · obtain ⟨k, rfl⟩ : ∃ k : Nat, i = k := ⟨i.toNat, by omega⟩
    have hkn : k < n := by omega
    have HD := Lib.hid (show decide (0 ≤ (k : Int) ∧ (k : Int) < (n : Int)) = true by simp; omega)
    have cm := HM.out.cell (i := k) (by rw [inL_len]; exact hkn)
    rw [flag_inL n l hkn] at cm
    clear hin
    by_cases hk : k ∈ l
    · rw [show decide (k ∈ l) = true by simpa using hk] at cm
      have HE : Hid (isNew n l (k : Int) = false ∧ comeL n l (k : Int) = l) := Lib.hid (by
        have : isNew n l (k : Int) = false := by simp [isNew, hk]
        exact ⟨this, by simp [comeL, this]⟩)
      clear hk
      go_enter Try.func27, Try.ntmps27
      go_wp2_with (go_at_call 34; (with_reducible refine (isNode_any _ _ _).mono ?_); rintro e w1 ⟨rfl, rfl⟩; rw [HD.out])
      go_ret
      rw [HE.out.1, HE.out.2]
      exact ⟨rfl, .same HV.out⟩
    · rw [show decide (k ∈ l) = false by simpa using hk] at cm
      have hln : l.length + 1 ≤ n := by
        have := nat_sub (a := k :: l) (b := List.range n) (List.nodup_cons.2 ⟨hk, HV.out.nd⟩) fun x hx => by
          rcases List.mem_cons.1 hx with e | e
          · rw [e]; exact List.mem_range.2 hkn
          · exact List.mem_range.2 (HV.out.node x e)
        rw [List.length_range] at this
        simpa using this
      have HE : Hid (isNew n l (k : Int) = true ∧ comeL n l (k : Int) = l ++ [k]) := Lib.hid (by
        have : isNew n l (k : Int) = true := by simp [isNew, hk]; omega
        exact ⟨this, by simp [comeL, this]⟩)
      have HN := Lib.hid hk
      have fm := HM.out.frozen k
      obtain ⟨w1, hw1⟩ : ∃ w1, w1 = w.setCell ⟨M, k, none⟩ (.bool true) := ⟨_, rfl⟩
      have K1 : Hid (Keep V w w1) := Lib.hid (by rw [hw1]; exact (Keep.refl V w).setCell HP.out.2.1 _)
      have B1 : Hid (w1.heap[B]? = some (.cells #[lv, .slice (some ⟨M, 0, none⟩) n n] 45 (0, 0))) := Lib.hid (by rw [hw1, Below.heap_setCell _ _ _ _ HP.out.2.2]; exact HB.out)
      have M1 : Hid (Mrk w1 M 4 (inL n (l ++ [k]))) := Lib.hid (by rw [hw1, inL_push]; exact HM.out.set k true)
      have Q1 : Hid (Que w1 0 3 lv (nums (ints l))) := Lib.hid (by rw [hw1]; exact HQ.out.set (fun e => (HL.out _ e).2.2 rfl) _)
      have d0 : w1.cell? ⟨B, 0, none⟩ = some lv := by rw [cell_of_row w1 B 0 _ 45 (0, 0) B1.out]; rfl
      have HW := Lib.hid hw1
      clear hk hw1
      go_enter Try.func27, Try.ntmps27
      go_upto_region 4 with (go_at_call 34; (with_reducible refine (isNode_any _ _ _).mono ?_); rintro e wz ⟨rfl, rfl⟩; rw [HD.out])
      rw [← HW.out]
      have hll := ints_len l
      clear c0 c1 cm fm
      go_wp2_with (at_builtin; refine wpList_app _ rfl (.tmp 32) (.tmp 34) _ rfl 0 3 i0 (.int .i64 0) 8 Try.underlying28 hi0 hz0 hz1 hz2 rfl _ _ rfl (Q1.out.alloc _ _) _ [Value.int IntKind.i64 (k : Int)] rfl (news_one _ _ _ _) (by intro y hy; simp at hy; subst hy; rfl) (by simp only [nums_len, ints_len, List.length_singleton, maxLen]; omega) (by simp only [nums_len, ints_len, List.length_singleton]; omega) (by simp) ?_; intro lv2 w2 hq2 hg2 ha2; obtain ⟨c9, f9, HC⟩ := vst_push HV.out hkn HN.out K1.out B1.out M1.out HP.out HL.out ((Fresh.refl w1).alloc _ _) hq2 hg2 ha2; have HC := Lib.hid HC; obtain ⟨q2, n2, cc2, rfl⟩ := hq2.sl; clear hq2 hg2 ha2 d0)
      go_ret
      rw [HE.out.1, HE.out.2]
      exact ⟨rfl, HC.out⟩
  · have HD := Lib.hid (show decide (0 ≤ i ∧ i < (n : Int)) = false by simpa using hin)
    have HE : Hid (isNew n l i = false ∧ comeL n l i = l) := Lib.hid (by
      have : isNew n l i = false := by
        simp only [isNew, decide_eq_false_iff_not]
        exact fun h => hin ⟨h.1, h.2.1⟩
      exact ⟨this, by simp [comeL, this]⟩)
    clear hin
    go_enter Try.func27, Try.ntmps27
    go_wp2_with (go_at_call 34; (with_reducible refine (isNode_any _ _ _).mono ?_); rintro e w1 ⟨rfl, rfl⟩; rw [HD.out])
    go_ret
    rw [HE.out.1, HE.out.2]
    exact ⟨rfl, .same HV.out⟩
end Go.Proofs.Ytlmlgdojmcmllaa


/- A closure called with each node of a visit, with those, too, that are come to meanwhile. -/
namespace Go.Proofs.Ytlmlgdojmcmllaa
set_option linter.unusedSimpArgs false
set_option linter.unusedVariables false
open Go.RowKit
open Solve

theorem Vst.cells {w : World} {V : Nat → Prop} {B n : Nat} {l : List Nat} (h : Vst w V B n l) : ∃ q c M, w.cell? ⟨B, 0, none⟩ = some (.slice q l.length c) ∧ w.cell? ⟨B, 1, none⟩ = some (.slice (some ⟨M, 0, none⟩) n n) ∧ l.length ≤ c ∧ c ≤ 9223372036854775807 ∧
    (∀ k (h : k < l.length), ∃ L off, q = some ⟨L, off, none⟩ ∧ w.cell? ⟨L, off + k, none⟩ = some (.int .i64 (l[k] : Int))) ∧ ∀ i, i < n → w.cell? ⟨M, i, none⟩ = some (.bool (decide (i ∈ l))) := by
  obtain ⟨M, lv, h1, h2, h3, h4, h5, h6, h7⟩ := h.ex
  obtain ⟨q, c, hv, ⟨hc, hm⟩, hh⟩ := h3.ints.form
  rw [ints_len] at hv hc
  subst hv
  refine ⟨q, c, M, by rw [cell_of_row w B 0 _ 45 (0, 0) h1]; rfl, by rw [cell_of_row w B 1 _ 45 (0, 0) h1]; rfl, hc, by simpa [maxLen] using hm, fun k hk => ?_, fun i hi => ?_⟩
  · obtain ⟨L, off, hq, _, hx⟩ := hh k (by rw [ints_len]; exact hk)
    rw [ints_at hk] at hx
    exact ⟨L, off, hq, hx⟩
  · rw [h2.cell (by rw [inL_len]; exact hi), flag_inL n l hi]
set_option maxHeartbeats 8000000 in
set_option maxRecDepth 100000 in
theorem eachReach_any (c1 c2 : Value) (B n : Nat) (hn : n ≤ 1000) (I : Nat → List Nat → World → Prop) (hread : ∀ k l w, I k l w → ∃ V, Vst w V B n l)
    (hstep : ∀ k l w (h : k < l.length), I k l w → Calls Try.prog 29 #[.int .i64 (l[k] : Int), c1, c2] w fun e w' => e = .returned (.tuple #[]) ∧ ∃ l', l.length ≤ l'.length ∧ I (k + 1) l' w')
    (l : List Nat) (w : World) (h0 : I 0 l w) :
    Calls Try.prog 28 #[.pointer (some ⟨B, 0, none⟩), .func (.func 29) #[] #[c1, c2]] w fun e w' => e = .returned (.tuple #[]) ∧ ∃ l', I l'.length l' w' := by
  have HR := Lib.hid hread
  have HS := Lib.hid hstep
  have H0 := Lib.hid h0
  clear hread hstep h0
  go_enter Try.func28, Try.ntmps28
  go_wp2
  go_loopg [4] n (fun k s4 wr => ∃ (i : Nat) (l : List Nat), s4 = .int .i64 i ∧ i ≤ n ∧ k = n - i ∧ Hid (i ≤ l.length) ∧ Hid (I i l wr))
  case atStart => exact ⟨0, l, rfl, by omega, by omega, Lib.hid (by omega), H0⟩
  case round =>
    clear H0
    obtain ⟨i, l, rfl, hin, rfl, HL, HI⟩ := hrel
    obtain ⟨V, hV⟩ := HR.out i l wr HI.out
    obtain ⟨q, c, M, e0, _, hlc, hc, hx, _⟩ := hV.cells
    have hln := hV.len
    have hil := HL.out
    clear hV
    by_cases hlt : i < l.length
    · obtain ⟨L, off, rfl, ex⟩ := hx i hlt
      have HC := Lib.hid (HS.out i l wr hlt HI.out)
      obtain ⟨x, hxx⟩ : ∃ x : Nat, x = l[i] := ⟨_, rfl⟩
      rw [← hxx] at ex HC
      clear hx hxx
      go_wp2_with (go_at_call 29; (with_reducible refine HC.out.mono ?_); rintro e w1 ⟨rfl, l2, hl2, h2⟩; have HI2 := Lib.hid h2; have HL2 := Lib.hid hl2; clear hl2 h2)
      go_roundg (n - (i + 1))
      case measure => go_light; omega
      case rel => go_light; exact ⟨i + 1, l2, by go_num, by omega, rfl, Lib.hid (by have := HL2.out; omega), HI2⟩
    · obtain rfl : i = l.length := by omega
      clear hx
      go_wp2
      go_end0
      exact ⟨rfl, l, HI.out⟩
set_option maxHeartbeats 8000000 in
set_option maxRecDepth 100000 in
theorem eachSets_any (c1 c2 : Value) (B n : Nat) (hn : n ≤ 1000) (I : Nat → List Nat → World → Prop) (hread : ∀ k l w, I k l w → ∃ V, Vst w V B n l)
    (hstep : ∀ k l w (h : k < l.length), I k l w → Calls Try.prog 45 #[.int .i64 (l[k] : Int), c1, c2] w fun e w' => e = .returned (.tuple #[]) ∧ ∃ l', l.length ≤ l'.length ∧ I (k + 1) l' w')
    (l : List Nat) (w : World) (h0 : I 0 l w) :
    Calls Try.prog 28 #[.pointer (some ⟨B, 0, none⟩), .func (.func 45) #[] #[c1, c2]] w fun e w' => e = .returned (.tuple #[]) ∧ ∃ l', I l'.length l' w' := by
  have HR := Lib.hid hread
  have HS := Lib.hid hstep
  have H0 := Lib.hid h0
  clear hread hstep h0
  go_enter Try.func28, Try.ntmps28
  go_wp2
  go_loopg [4] n (fun k s4 wr => ∃ (i : Nat) (l : List Nat), s4 = .int .i64 i ∧ i ≤ n ∧ k = n - i ∧ Hid (i ≤ l.length) ∧ Hid (I i l wr))
  case atStart => exact ⟨0, l, rfl, by omega, by omega, Lib.hid (by omega), H0⟩
  case round =>
    clear H0
    obtain ⟨i, l, rfl, hin, rfl, HL, HI⟩ := hrel
    obtain ⟨V, hV⟩ := HR.out i l wr HI.out
    obtain ⟨q, c, M, e0, _, hlc, hc, hx, _⟩ := hV.cells
    have hln := hV.len
    have hil := HL.out
    clear hV
    by_cases hlt : i < l.length
    · obtain ⟨L, off, rfl, ex⟩ := hx i hlt
      have HC := Lib.hid (HS.out i l wr hlt HI.out)
      obtain ⟨x, hxx⟩ : ∃ x : Nat, x = l[i] := ⟨_, rfl⟩
      rw [← hxx] at ex HC
      clear hx hxx
      go_wp2_with (go_at_call 45; (with_reducible refine HC.out.mono ?_); rintro e w1 ⟨rfl, l2, hl2, h2⟩; have HI2 := Lib.hid h2; have HL2 := Lib.hid hl2; clear hl2 h2)
      go_roundg (n - (i + 1))
      case measure => go_light; omega
      case rel => go_light; exact ⟨i + 1, l2, by go_num, by omega, rfl, Lib.hid (by have := HL2.out; omega), HI2⟩
    · obtain rfl : i = l.length := by omega
      clear hx
      go_wp2
      go_end0
      exact ⟨rfl, l, HI.out⟩
set_option maxHeartbeats 8000000 in
set_option maxRecDepth 100000 in
theorem eachSpread_any (c1 c2 : Value) (B n : Nat) (hn : n ≤ 1000) (I : Nat → List Nat → World → Prop) (hread : ∀ k l w, I k l w → ∃ V, Vst w V B n l)
    (hstep : ∀ k l w (h : k < l.length), I k l w → Calls Try.prog 52 #[.int .i64 (l[k] : Int), c1, c2] w fun e w' => e = .returned (.tuple #[]) ∧ ∃ l', l.length ≤ l'.length ∧ I (k + 1) l' w')
    (l : List Nat) (w : World) (h0 : I 0 l w) :
    Calls Try.prog 28 #[.pointer (some ⟨B, 0, none⟩), .func (.func 52) #[] #[c1, c2]] w fun e w' => e = .returned (.tuple #[]) ∧ ∃ l', I l'.length l' w' := by
  have HR := Lib.hid hread
  have HS := Lib.hid hstep
  have H0 := Lib.hid h0
  clear hread hstep h0
  go_enter Try.func28, Try.ntmps28
  go_wp2
  go_loopg [4] n (fun k s4 wr => ∃ (i : Nat) (l : List Nat), s4 = .int .i64 i ∧ i ≤ n ∧ k = n - i ∧ Hid (i ≤ l.length) ∧ Hid (I i l wr))
  case atStart => exact ⟨0, l, rfl, by omega, by omega, Lib.hid (by omega), H0⟩
  case round =>
    clear H0
    obtain ⟨i, l, rfl, hin, rfl, HL, HI⟩ := hrel
    obtain ⟨V, hV⟩ := HR.out i l wr HI.out
    obtain ⟨q, c, M, e0, _, hlc, hc, hx, _⟩ := hV.cells
    have hln := hV.len
    have hil := HL.out
    clear hV
    by_cases hlt : i < l.length
    · obtain ⟨L, off, rfl, ex⟩ := hx i hlt
      have HC := Lib.hid (HS.out i l wr hlt HI.out)
      obtain ⟨x, hxx⟩ : ∃ x : Nat, x = l[i] := ⟨_, rfl⟩
      rw [← hxx] at ex HC
      clear hx hxx
      go_wp2_with (go_at_call 52; (with_reducible refine HC.out.mono ?_); rintro e w1 ⟨rfl, l2, hl2, h2⟩; have HI2 := Lib.hid h2; have HL2 := Lib.hid hl2; clear hl2 h2)
      go_roundg (n - (i + 1))
      case measure => go_light; omega
      case rel => go_light; exact ⟨i + 1, l2, by go_num, by omega, rfl, Lib.hid (by have := HL2.out; omega), HI2⟩
    · obtain rfl : i = l.length := by omega
      clear hx
      go_wp2
      go_end0
      exact ⟨rfl, l, HI.out⟩
end Go.Proofs.Ytlmlgdojmcmllaa


/- What is reached, by the program. -/
namespace Go.Proofs.Ytlmlgdojmcmllaa
set_option linter.unusedSimpArgs false
set_option linter.unusedVariables false
open Go.RowKit
open Solve

def visL (n : Nat) (l : List Nat) (xs : List Int) : List Nat := xs.foldl (comeL n) l
theorem mem_comeL {n : Nat} {l : List Nat} {i : Int} {x : Nat} : x ∈ comeL n l i ↔ x ∈ l ∨ ((x : Int) = i ∧ x < n) := by
  unfold comeL
  by_cases h : isNew n l i = true
  · rw [if_pos h]
    simp only [isNew, decide_eq_true_eq] at h
    rw [List.mem_append, List.mem_singleton]
    constructor
    · rintro (h1 | h1)
      · exact Or.inl h1
      · exact Or.inr ⟨by omega, by omega⟩
    · rintro (h1 | h1)
      · exact Or.inl h1
      · exact Or.inr (by omega)
  · rw [if_neg h]
    simp only [isNew, decide_eq_true_eq] at h
    constructor
    · exact Or.inl
    · rintro (h1 | ⟨h1, h2⟩)
      · exact h1
      · have e : i.toNat = x := by omega
        rw [e] at h
        exact Classical.byContradiction fun hx => h ⟨by omega, by omega, hx⟩
theorem comeL_pre (n : Nat) (l : List Nat) (i : Int) : l <+: comeL n l i := by
  unfold comeL
  by_cases h : isNew n l i = true
  · rw [if_pos h]; exact List.prefix_append _ _
  · rw [if_neg h]; exact List.prefix_refl _
theorem mem_visL {n : Nat} (xs : List Int) : ∀ {l : List Nat} {x : Nat}, x ∈ visL n l xs ↔ x ∈ l ∨ x ∈ nodesOf n xs := by
  unfold visL
  induction xs with
  | nil => intro l x; simp [nodesOf]
  | cons k xs ih =>
    intro l x
    rw [List.foldl_cons, ih, mem_comeL, mem_nodesOf, mem_nodesOf]
    constructor
    · rintro ((h | ⟨h1, h2⟩) | ⟨h1, h2⟩)
      · exact Or.inl h
      · exact Or.inr ⟨by simp [h1], h2⟩
      · exact Or.inr ⟨by simp [h1], h2⟩
    · rintro (h | ⟨h1, h2⟩)
      · exact Or.inl (Or.inl h)
      · rcases List.mem_cons.1 h1 with e | e
        · exact Or.inl (Or.inr ⟨e, h2⟩)
        · exact Or.inr ⟨e, h2⟩
theorem visL_pre (n : Nat) (xs : List Int) : ∀ l : List Nat, l <+: visL n l xs := by
  unfold visL
  induction xs with
  | nil => exact fun l => List.prefix_refl _
  | cons k xs ih => exact fun l => (comeL_pre n l k).trans (ih _)
theorem visL_take {n : Nat} {l : List Nat} {xs : List Int} {j : Nat} (h : j < xs.length) : visL n l (xs.take (j + 1)) = comeL n (visL n l (xs.take j)) (xs[j]) := fold_take _ _ _ _ h
/-- A visit beside what its closure has caught. -/
structure Env1 (w0 : World) (p2 p5 : Nat) (v2 v5 : Value) (B n : Nat) (w : World) (V : Nat → Prop) (l : List Nat) : Prop where
  vst : Vst w V B n l
  base : ∀ k, V k → w0.heap.size ≤ k
  fr : Fresh w0 w
  c2 : w.cell? ⟨p2, 0, none⟩ = some v2
  c5 : w.cell? ⟨p5, 0, none⟩ = some v5
  n2 : ¬ V p2
  n5 : ¬ V p5
theorem Env1.come {w0 : World} {p2 p5 : Nat} {v2 v5 : Value} {B n : Nat} {w w' : World} {V : Nat → Prop} {l l' : List Nat} (h : Env1 w0 p2 p5 v2 v5 B n w V l) (hc : CP V B n l l' w w') : ∃ V', Env1 w0 p2 p5 v2 v5 B n w' V' l' := by
  obtain ⟨V', h1, h2, h3⟩ := hc
  have l2 := cell_lt h.c2
  have l5 := cell_lt h.c5
  simp only at l2 l5
  have hz := h.fr.size
  refine ⟨V', h1, fun k hk => ?_, h3.fresh h.fr h.base, h3.cell h.n2 h.c2, h3.cell h.n5 h.c5, fun hk => ?_, fun hk => ?_⟩
  · rcases h2 k hk with r | r
    · exact h.base k r
    · omega
  · rcases h2 _ hk with r | r
    · exact h.n2 r
    · omega
  · rcases h2 _ hk with r | r
    · exact h.n5 r
    · omega
theorem Env1.fresh {w0 : World} {p2 p5 : Nat} {v2 v5 : Value} {B n : Nat} {w w' : World} {V : Nat → Prop} {l : List Nat} (h : Env1 w0 p2 p5 v2 v5 B n w V l) (hf : Fresh w w') : Env1 w0 p2 p5 v2 v5 B n w' V l :=
  ⟨h.vst.fresh hf, h.base, h.fr.trans hf, hf.sts (fun _ => True) _ _ _ trivial h.c2, hf.sts (fun _ => True) _ _ _ trivial h.c5, h.n2, h.n5⟩
set_option maxHeartbeats 8000000 in
set_option maxRecDepth 100000 in
theorem reach1_any (w0 : World) (p2 p5 : Nat) (v : Value) (g : Graph) (B : Nat) (w : World) (V : Nat → Prop) (l : List Nat) (i : Nat) (hi : i < g.length) (hg : Sm g) (hr : Rows2 T T w0 v g) (hE : Env1 w0 p2 p5 v (.pointer (some ⟨B, 0, none⟩)) B g.length w V l) :
    Calls Try.prog 29 #[.int .i64 (i : Int), .pointer (some ⟨p2, 0, none⟩), .pointer (some ⟨p5, 0, none⟩)] w fun e w' => e = .returned (.tuple #[]) ∧ ∃ V', Env1 w0 p2 p5 v (.pointer (some ⟨B, 0, none⟩)) B g.length w' V' (visL g.length l (row g i)) := by
  have HR := Lib.hid hr
  have HE := Lib.hid hE
  have hgl := hg.len
  have hrow := hg.row i
  have c2 := hE.c2
  obtain ⟨p, cap, rfl, ⟨hc, hm⟩, hh⟩ := hr.form
  unfold maxLen at hm
  obtain ⟨B0, off, u, rfl, _, cu0, hu⟩ := hh i hi
  have cu := hE.fr.sts (fun _ => True) _ _ _ trivial cu0
  obtain ⟨q, c, rfl, ⟨hc', hm'⟩, _⟩ := hu.form
  unfold maxLen at hm'
  have HU := Lib.hid hu
  clear hh hr hE hg hu cu0
  go_enter Try.func29, Try.ntmps29
  go_wp2
  go_loopg [5, 11] (row g i).length (fun k s5 s11 wr => ∃ (j : Nat) (V' : Nat → Prop), s11 = .int .i64 j ∧ j ≤ (row g i).length ∧ k = (row g i).length - j ∧ Hid (Env1 w0 p2 p5 (.slice (some ⟨B0, off, none⟩) g.length cap) (.pointer (some ⟨B, 0, none⟩)) B g.length wr V' (visL g.length l ((row g i).take j))))
  case atStart => exact ⟨0, V, rfl, by omega, by omega, HE⟩
  case round =>
    clear HE cu c2
    obtain ⟨j, V', rfl, hj, rfl, HE⟩ := hrel
    by_cases hlt : j < (row g i).length
    · obtain ⟨L, o, rfl, _, ex⟩ := ints_cell (HU.out.fresh HE.out.fr) hlt
      have c5 := HE.out.c5
      have HT := Lib.hid (visL_take (n := g.length) (l := l) hlt)
      obtain ⟨x, hx⟩ : ∃ x, x = (row g i)[j] := ⟨_, rfl⟩
      rw [← hx] at ex HT
      clear hx
      go_wp2_with (go_at_call 27; (with_reducible refine (come_any V' B g.length _ x _ (by omega) HE.out.vst).mono ?_); rintro e w1 ⟨rfl, h1⟩; have HC := Lib.hid h1; clear h1)
      obtain ⟨V2, hE2⟩ := HE.out.come HC.out
      rw [← HT.out] at hE2
      have HE2 := Lib.hid hE2
      clear hE2
      go_roundg ((row g i).length - (j + 1))
      case measure => go_light; omega
      case rel => go_light; exact ⟨j + 1, V2, by go_num, by omega, rfl, HE2⟩
    · have HV : Hid (∃ V', Env1 w0 p2 p5 (.slice (some ⟨B0, off, none⟩) g.length cap) (.pointer (some ⟨B, 0, none⟩)) B g.length wr V' (visL g.length l (row g i))) := by
        have := HE.out
        rw [List.take_of_length_le (by omega)] at this
        exact Lib.hid ⟨V', this⟩
      go_wp2
      go_end0
      exact ⟨rfl, HV.out⟩
/-- What the closure's rounds keep. -/
def RI (g : Graph) (entry : Nat) (k : Nat) (l : List Nat) : Prop := entry ∈ l ∧ (∀ x ∈ l, Path g entry x) ∧ ∀ j (h : j < l.length), j < k → ∀ c ∈ fol g l[j], c ∈ l
theorem RI.next {g : Graph} {entry k : Nat} {l : List Nat} (h : RI g entry k l) (hk : k < l.length) : RI g entry (k + 1) (visL g.length l (row g l[k])) := by
  obtain ⟨S, hS⟩ := visL_pre g.length (row g l[k]) l
  refine ⟨(mem_visL _).2 (Or.inl h.1), fun x hx => ?_, fun j hj hjk c hc => ?_⟩
  · rcases (mem_visL _).1 hx with r | r
    · exact h.2.1 x r
    · exact (h.2.1 _ (List.getElem_mem hk)).step r
  · by_cases e : j = k
    · subst e
      have : (visL g.length l (row g l[j]))[j] = l[j] := by
        have hh : (l ++ S)[j]? = some l[j] := by rw [List.getElem?_append_left hk]; exact List.getElem?_eq_getElem hk
        rw [hS] at hh
        rw [List.getElem?_eq_getElem hj] at hh
        injection hh
      rw [this] at hc
      exact (mem_visL _).2 (Or.inr hc)
    · have hjl : j < l.length := by omega
      have : (visL g.length l (row g l[k]))[j] = l[j] := by
        have hh : (l ++ S)[j]? = some l[j] := by rw [List.getElem?_append_left hjl]; exact List.getElem?_eq_getElem hjl
        rw [hS] at hh
        rw [List.getElem?_eq_getElem hj] at hh
        injection hh
      rw [this] at hc
      exact (mem_visL _).2 (Or.inl (h.2.2 j hjl (by omega) c hc))
theorem RI.done {g : Graph} {entry : Nat} {l : List Nat} (h : RI g entry l.length l) (he : entry < g.length) : ReachB g entry (inL g.length l) := by
  refine ⟨inL_len _ _, fun i => ?_⟩
  have key : Path g entry i → i ∈ l := fun hp => hp.closed (P := fun i => i ∈ l) h.1 fun a b ha hb => by
    obtain ⟨j, hj, rfl⟩ := List.getElem_of_mem ha
    exact h.2.2 j hj hj b hb
  constructor
  · intro hf
    have hi := flag_lt hf
    rw [inL_len] at hi
    rw [flag_inL _ _ hi] at hf
    exact ⟨by omega, by omega, by simpa using h.2.1 i (by simpa using hf)⟩
  · rintro ⟨_, _, hp⟩
    have hp : Path g entry i := by simpa using hp
    rw [flag_inL _ _ (hp.lt he)]
    simpa using key hp
theorem alloc_cell0 (w : World) (v : Value) (t : TypeId) : (w.alloc (.cells #[v] t)).cell? ⟨w.heap.size, 0, none⟩ = some v := by
  rw [cell_of_row _ _ 0 _ t (0, 0) (heap_alloc_new w _)]; rfl
theorem Mrk.row2 {ok : Nat → Prop} {w : World} {g : Nat} {t : TypeId} {b : List Bool} (h : Mrk w g t b) (hk : ok g) (hb : b.length ≤ maxLen) : Row ok w (.slice (some ⟨g, 0, none⟩) b.length b.length) (marks b) :=
  ⟨_, b.length, by rw [marks_len], ⟨by rw [marks_len]; exact Nat.le_refl _, hb⟩, Or.inr ⟨g, 0, rfl, hk, fun i u hu => by
    rw [cell_of_row w g (0 + i) _ t (0, 0) h.blk]; simpa using hu⟩⟩
def RJ (g : Graph) (entry : Int) (k : Nat) (l : List Nat) : Prop := (0 ≤ entry ∧ entry < (g.length : Int) → RI g entry.toNat k l) ∧ (¬ (0 ≤ entry ∧ entry < (g.length : Int)) → l = [])
set_option maxHeartbeats 8000000 in
set_option maxRecDepth 100000 in
theorem reachP2_any (v : Value) (g : Graph) (entry : Int) (w : World) (hg : Sm g) (h : Rows2 T T w v g) :
    Calls Try.prog 10 #[v, .int .i64 entry] w fun e w' => ∃ q c b, e = .returned (.slice q (marks b).length c) ∧ Row (fun k => w.heap.size ≤ k) w' (.slice q (marks b).length c) (marks b) ∧ ReachB g entry b ∧ Fresh w w' := by
  have HG := Lib.hid hg
  have HR := Lib.hid h
  obtain ⟨p, cap, rfl, ⟨hc, hm⟩, _⟩ := h.form
  unfold maxLen at hm
  have hgl := hg.len
  clear h hg
  go_enter Try.func10, Try.ntmps10
  go_upto_region 2 with (go_at_call 26; (with_reducible refine (newVisit_any g.length (by omega) _).mono ?_); rintro e w1 ⟨V, B, rfl, hV, hb, h1⟩; have HV := Lib.hid hV; have HB := Lib.hid hb; have H1 := Lib.hid h1; clear hV hb h1)
  have HE : Hid (Env1 w w.heap.size w1.heap.size (.slice p g.length cap) (.pointer (some ⟨B, 0, none⟩)) B g.length (w1.alloc (.cells #[.pointer (some ⟨B, 0, none⟩)] 39)) V []) := Lib.hid (by
    refine ⟨HV.out.fresh ((Fresh.refl _).alloc _ _), fun k hk => ?_, (((Fresh.refl w).alloc _ _).trans H1.out).alloc _ _, ?_, alloc_cell0 _ _ _, fun hk => ?_, fun hk => ?_⟩
    · have := HB.out k hk; simp at this; omega
    · exact (H1.out.alloc _ _).sts (fun _ => True) _ _ _ trivial (alloc_cell0 _ _ _)
    · have := HB.out _ hk; simp at this
      omega
    · have := HV.out.lt _ hk; omega)
  obtain ⟨W, hW⟩ : ∃ W, W = w1.alloc (.cells #[.pointer (some ⟨B, 0, none⟩)] 39) := ⟨_, rfl⟩
  obtain ⟨P2, hP2⟩ : ∃ P2, P2 = w.heap.size := ⟨_, rfl⟩
  obtain ⟨P5, hP5⟩ : ∃ P5, P5 = w1.heap.size := ⟨_, rfl⟩
  rw [← hW, ← hP2, ← hP5] at HE
  rw [← hW, ← hP2, ← hP5]
  clear hW hP2 hP5 HV HB H1
  have c5 := HE.out.c5
  go_upto_region 3 with (go_at_call 27; (with_reducible refine (come_any V B g.length [] entry _ (by omega) HE.out.vst).mono ?_); rintro e w2 ⟨rfl, h1⟩; have HC := Lib.hid h1; clear h1)
  obtain ⟨V2, hE2⟩ := HE.out.come HC.out
  have HE2 := Lib.hid hE2
  have d5 := hE2.c5
  clear hE2 HE HC c5
  have HI : Hid (RJ g entry 0 (comeL g.length [] entry)) := Lib.hid (by
    by_cases h : 0 ≤ entry ∧ entry < (g.length : Int)
    · have e1 : comeL g.length [] entry = [entry.toNat] := by
        have : isNew g.length [] entry = true := by simp [isNew, h]
        simp [comeL, this]
      rw [e1]
      exact ⟨fun _ => ⟨by simp, fun x hx => by have : x = entry.toNat := by simpa using hx
                                               rw [this]; exact .refl _, fun j hj hj0 => by omega⟩, fun hn => absurd h hn⟩
    · have e1 : comeL g.length [] entry = [] := by
        have : isNew g.length [] entry = false := by simp only [isNew, decide_eq_false_iff_not]; exact fun x => h ⟨x.1, x.2.1⟩
        simp [comeL, this]
      rw [e1]
      exact ⟨fun hn => absurd hn h, fun _ => rfl⟩)
  have HS : Hid (Calls Try.prog 28 #[.pointer (some ⟨B, 0, none⟩), .func (.func 29) #[] #[.pointer (some ⟨P2, 0, none⟩), .pointer (some ⟨P5, 0, none⟩)]] w2 fun e w' => e = .returned (.tuple #[]) ∧ ∃ l', (∃ V', Env1 w P2 P5 (.slice p g.length cap) (.pointer (some ⟨B, 0, none⟩)) B g.length w' V' l') ∧ RJ g entry l'.length l') :=
    Lib.hid (eachReach_any (.pointer (some ⟨P2, 0, none⟩)) (.pointer (some ⟨P5, 0, none⟩)) B g.length (by omega) (fun k l w' => (∃ V', Env1 w P2 P5 (.slice p g.length cap) (.pointer (some ⟨B, 0, none⟩)) B g.length w' V' l) ∧ RJ g entry k l)
      (fun k l w' h => h.1.imp fun V' h => h.vst)
      (fun k l w' hk h => by
        obtain ⟨⟨V', hE⟩, hJ⟩ := h
        have hi := hE.vst.node _ (List.getElem_mem hk)
        refine (reach1_any w P2 P5 _ g B w' V' l l[k] hi HG.out HR.out hE).mono ?_
        rintro e w3 ⟨rfl, hE3⟩
        refine ⟨rfl, _, ?_, hE3, fun hn => (hJ.1 hn).next hk, fun hn => ?_⟩
        · obtain ⟨S, hS⟩ := visL_pre g.length (row g l[k]) l
          rw [← hS]; simp
        · have := hJ.2 hn
          subst this; simp at hk)
      _ w2 ⟨⟨V2, HE2.out⟩, HI.out⟩)
  clear HI HE2
  go_upto_region 4 with (go_at_call 28; (with_reducible refine HS.out.mono ?_); rintro e w3 ⟨rfl, l, h1, h2⟩; have HE := Lib.hid h1; have HJ := Lib.hid h2; clear h1 h2)
  obtain ⟨V3, hE⟩ := HE.out
  obtain ⟨M, lv, x1, x2, _, _, _, x3, _⟩ := hE.vst.ex
  have c5 := hE.c5
  have d1 : w3.cell? ⟨B, 1, none⟩ = some (.slice (some ⟨M, 0, none⟩) g.length g.length) := by rw [cell_of_row w3 B 1 _ 45 (0, 0) x1]; rfl
  have HF := Lib.hid hE.fr
  have HM := Lib.hid x2
  have HMB := Lib.hid (hE.base M x3)
  clear hE x1 x2 x3 HE HS d5
  go_wp2
  go_ret
  have hml : (marks (inL g.length l)).length = g.length := by rw [marks_len, inL_len]
  refine ⟨some ⟨M, 0, none⟩, g.length, inL g.length l, by rw [hml]; rfl, ?_, ?_, HF.out⟩
  · have := HM.out.row2 (ok := fun k => w.heap.size ≤ k) HMB.out (by rw [inL_len]; simp only [maxLen]; omega)
    rw [inL_len] at this
    rw [hml]; exact this
  · by_cases h : 0 ≤ entry ∧ entry < (g.length : Int)
    · have := (HJ.out.1 h).done (by omega)
      exact ⟨this.1, fun i => by rw [this.2 i]; exact ⟨fun x => ⟨h.1, h.2, by have := x.2.2; rwa [Int.toNat_natCast] at this⟩, fun x => ⟨by omega, by omega, by rw [Int.toNat_natCast]; exact x.2.2⟩⟩⟩
    · rw [HJ.out.2 h, inL_nil]; exact reachB_none h
theorem reachP_any : ReachC 10 := fun v g entry w hg h => (reachP2_any v g entry w hg h).mono fun e w' ⟨q, c, b, h1, h2, h3, h4⟩ => ⟨q, c, b, h1, h2.imp fun _ _ _ => trivial, h3, h4⟩
end Go.Proofs.Ytlmlgdojmcmllaa


/- Rows of rows of the call's own, each in a block of its own; a graph turned round, plainly. -/
namespace Go.Proofs.Ytlmlgdojmcmllaa
set_option linter.unusedSimpArgs false
set_option linter.unusedVariables false
open Go.RowKit
open Solve

structure Bag (w : World) (V : Nat → Prop) (b : Nat) (ls : Graph) : Prop where
  ex : ∃ vs : List Value, vs.length = ls.length ∧ w.heap[b]? = some (.cells vs.toArray 28 (0, 0)) ∧ (∀ i u, vs[i]? = some u → Que w 0 3 u (nums (row ls i)) ∧ ∀ k, u.ownBlock = some k → V k ∧ k ≠ b) ∧
    ∀ (i j : Nat) (u v : Value) (k : Nat), vs[i]? = some u → vs[j]? = some v → u.ownBlock = some k → v.ownBlock = some k → i = j
  vb : V b
  lt : ∀ k, V k → k < w.heap.size
theorem Bag.keep {w w' : World} {V D : Nat → Prop} {b : Nat} {ls : Graph} (h : Bag w V b ls) (hk : Keep D w w') (hd : ∀ k, V k → ¬ D k) : Bag w' V b ls := by
  obtain ⟨vs, h1, h2, h3, h4⟩ := h.ex
  exact ⟨⟨vs, h1, (hk.block b (heap_lt h2) (hd b h.vb)).trans h2, fun i u hu => ⟨hk.que (h3 i u hu).1 fun k hk => hd k ((h3 i u hu).2 k hk).1, (h3 i u hu).2⟩, h4⟩, h.vb, fun k hv => Nat.lt_of_lt_of_le (h.lt k hv) hk.size⟩
theorem Bag.fresh {w w' : World} {V : Nat → Prop} {b : Nat} {ls : Graph} (h : Bag w V b ls) (hf : Fresh w w') : Bag w' V b ls := h.keep (D := fun _ => False) (.of hf) fun _ _ => id
theorem Bag.new (w : World) (n : Nat) : Bag (w.alloc (.cells (List.replicate n (.slice none 0 0)).toArray 28)) (fun k => k = w.heap.size) w.heap.size (List.replicate n []) := by
  have hu : ∀ {i u}, (List.replicate n (Value.slice none 0 0))[i]? = some u → u = Value.slice none 0 0 := fun {i u} hu => by
    rw [List.getElem?_replicate] at hu
    split at hu
    · injection hu with hu; exact hu.symm
    · cases hu
  refine ⟨⟨_, by simp, heap_alloc_new w _, fun i u h => ?_, fun i j u v k h _ hk => ?_⟩, rfl, fun k hk => by simp; omega⟩
  · obtain rfl := hu h
    rw [row_rep]
    exact ⟨.nil _ _ _, fun k hk => by cases hk⟩
  · obtain rfl := hu h
    cases hk
theorem Bag.rows {w : World} {V : Nat → Prop} {b : Nat} {ls : Graph} (h : Bag w V b ls) (hm : ls.length ≤ maxLen) : Rows2 T T w (.slice (some ⟨b, 0, none⟩) ls.length ls.length) ls := by
  obtain ⟨vs, h1, h2, h3, h4⟩ := h.ex
  refine ⟨vs, h1, ⟨some ⟨b, 0, none⟩, ls.length, by rw [h1], by rw [h1]; exact ⟨Nat.le_refl _, hm⟩, Or.inr ⟨b, 0, rfl, trivial, fun i u hu => ?_⟩⟩, fun i u hu => (h3 i u hu).1.ints⟩
  rw [cell_of_row w b (0 + i) _ 28 (0, 0) h2]; simpa using hu
/-- One of its rows. -/
theorem Bag.at' {w : World} {V : Nat → Prop} {b : Nat} {ls : Graph} (h : Bag w V b ls) {i : Nat} (hi : i < ls.length) : ∃ u, w.cell? ⟨b, i, none⟩ = some u ∧ Que w 0 3 u (nums (row ls i)) ∧ (∃ q c, u = .slice q (row ls i).length c ∧ (row ls i).length ≤ c ∧ c ≤ 9223372036854775807) ∧
    ∀ (wa w2 : World) (u2 : Value) (x : Int), Fresh w wa → Que w2 0 3 u2 (nums (row ls i) ++ [.int .i64 x]) → wa.grownBy w2 u.ownBlock → (u2.ownBlock = u.ownBlock ∨ u2.ownBlock = some wa.heap.size) →
      w2.cell? ⟨b, i, none⟩ = some u ∧ w2.frozen? ⟨b, i, none⟩ = false ∧ (∃ q n c, u2 = .slice q n c) ∧ ∃ V', Bag (w2.setCell ⟨b, i, none⟩ u2) V' b (ls.set i (row ls i ++ [x])) ∧ (∀ k, V' k → V k ∨ w.heap.size ≤ k) ∧ Keep V w (w2.setCell ⟨b, i, none⟩ u2) := by
  obtain ⟨vs, h1, h2, h3, h4⟩ := h.ex
  have hx : vs[i]? = some (vs[i]'(by omega)) := List.getElem?_eq_getElem (by omega)
  obtain ⟨u, hu⟩ : ∃ u, u = vs[i]'(by omega) := ⟨_, rfl⟩
  rw [← hu] at hx
  have hq := (h3 i u hx).1
  obtain ⟨q, c, e, ⟨hc, hm⟩, _⟩ := hq.ints.form
  refine ⟨u, by rw [cell_of_row w b i _ 28 (0, 0) h2]; simpa using hx, hq, ⟨q, c, e, hc, by simpa [maxLen] using hm⟩, fun wa w2 u2 x ha hq2 hg h5 => ?_⟩
  have hz := ha.size
  have hbl := heap_lt h2
  have hown := (h3 i u hx).2
  have hne : some b ≠ u.ownBlock := fun e => (hown b e.symm).2 rfl
  have hB2 : w2.heap[b]? = some (.cells vs.toArray 28 (0, 0)) := by
    rw [hg.block b (by omega) hne, ha.below.block b hbl]; exact h2
  have hc2 : w2.cell? ⟨b, i, none⟩ = some u := by rw [cell_of_row w2 b i _ 28 (0, 0) hB2]; simpa using hx
  have K2 : Keep V w (w2.setCell ⟨b, i, none⟩ u2) := ((Keep.of ha).grown hg fun k hk => (hown k hk).1).setCell h.vb _
  have hnew : ∀ k, u2.ownBlock = some k → (u.ownBlock = some k) ∨ k = wa.heap.size := fun k hk => by
    rcases h5 with e | e
    · exact Or.inl (e ▸ hk)
    · rw [e] at hk; injection hk with hk; exact Or.inr hk.symm
  have hnb : ∀ k, u2.ownBlock = some k → k ≠ b := fun k hk => by
    rcases hnew k hk with r | r
    · exact (hown k r).2
    · omega
  have hother : ∀ j v, j ≠ i → vs[j]? = some v → Que (w2.setCell ⟨b, i, none⟩ u2) 0 3 v (nums (row ls j)) := fun j v hj hv => by
    refine (h3 j v hv).1.kept fun k hk => ?_
    have hkl := ((h3 j v hv).1.lt k hk).2
    rw [Below.heap_setCell _ _ _ _ (fun e => ((h3 j v hv).2 k hk).2 e), hg.block k (by omega) (fun e => hj (h4 j i v u k hv hx hk e.symm)), ha.below.block k hkl]
  have hgrown : ∀ j v, (vs.set i u2)[j]? = some v → (j = i ∧ v = u2) ∨ (j ≠ i ∧ vs[j]? = some v) := fun j v hv => by
    rw [List.getElem?_set] at hv
    by_cases e : i = j
    · rw [if_pos e] at hv
      split at hv
      · injection hv with hv; exact Or.inl ⟨e.symm, hv.symm⟩
      · cases hv
    · rw [if_neg e] at hv
      exact Or.inr ⟨fun h => e h.symm, hv⟩
  refine ⟨hc2, frozen_of hB2 i, hq2.sl, fun k => V k ∨ u2.ownBlock = some k, ⟨⟨vs.set i u2, by simp [h1], ?_, fun j v hv => ?_, fun j j' v v' k hv hv' hk hk' => ?_⟩, Or.inl h.vb, fun k hk => ?_⟩, fun k hk => ?_, K2⟩
  · rw [heap_set hB2 i u2]; simp
  · rcases hgrown j v hv with ⟨rfl, rfl⟩ | ⟨hj, hv⟩
    · rw [row_set hi, if_pos rfl]
      refine ⟨?_, fun k hk => ⟨Or.inr hk, hnb k hk⟩⟩
      rw [nums_app]
      exact hq2.set (fun e => hnb _ e rfl) _
    · rw [row_set hi, if_neg hj]
      exact ⟨hother j v hj hv, fun k hk => ⟨Or.inl ((h3 j v hv).2 k hk).1, ((h3 j v hv).2 k hk).2⟩⟩
  · rcases hgrown j v hv with ⟨e1, e2⟩ | ⟨hj, hw⟩
    · rcases hgrown j' v' hv' with ⟨e3, _⟩ | ⟨hj', hw'⟩
      · omega
      · rcases hnew k (e2 ▸ hk) with r | r
        · rw [e1]; exact h4 _ _ _ _ k hx hw' r hk'
        · have := ((h3 j' v' hw').1.lt k hk').2; omega
    · rcases hgrown j' v' hv' with ⟨e3, e4⟩ | ⟨hj', hw'⟩
      · rcases hnew k (e4 ▸ hk') with r | r
        · rw [e3]; exact h4 _ _ _ _ k hw hx hk r
        · have := ((h3 j v hw).1.lt k hk).2; omega
      · exact h4 _ _ _ _ k hw hw' hk hk'
  · rcases hk with r | r
    · exact Nat.lt_of_lt_of_le (h.lt k r) K2.size
    · have := (hq2.lt k r).2
      simp only [World.setCell, Array.size_modify]
      exact this
  · rcases hk with r | r
    · exact Or.inl r
    · rcases hnew k r with r | r
      · exact Or.inl (hown k r).1
      · exact Or.inr (by omega)

/-- A row's last one is this. -/
def endsW (l : List Int) (x : Int) : Bool := decide (l.getLast? = some x)
structure BI (g : Graph) (i j : Nat) (ls : Graph) : Prop where
  len : ls.length = g.length
  inc : Rising ls
  iff : ∀ k x, x ∈ row ls k ↔ k < g.length ∧ ∃ a : Nat, x = (a : Int) ∧ ((a < i ∧ k ∈ fol g a) ∨ (a = i ∧ (k : Int) ∈ (row g i).take j))
section
variable {g : Graph} {i j : Nat} {ls : Graph}
theorem BI.start (g : Graph) : BI g 0 0 (List.replicate g.length []) :=
  ⟨by simp, fun i => by rw [row_rep]; exact inc_nil, fun k x => by rw [row_rep]; simp⟩
theorem BI.le (h : BI g i j ls) {k : Nat} {x : Int} (hx : x ∈ row ls k) : x ≤ (i : Int) := by
  obtain ⟨_, a, rfl, r | r⟩ := (h.iff k x).1 hx <;> omega
theorem BI.room (h : BI g i j ls) (hi : i < g.length) (hl : g.length ≤ 40) (k : Nat) : (row ls k).length ≤ 41 := by
  have := len_sub (a := row ls k) (b := (List.range 41).map fun a : Nat => (a : Int)) (h.inc k).nodup fun x hx => by
    obtain ⟨_, a, rfl, r⟩ := (h.iff k x).1 hx
    exact List.mem_map.2 ⟨a, List.mem_range.2 (by rcases r with r | r <;> omega), rfl⟩
  simpa using this
theorem inc_last {l : List Int} (h : Inc l) {y : Int} (hy : l.getLast? = some y) : ∀ x ∈ l, x ≤ y := by
  obtain ⟨a, rfl⟩ := List.getLast?_eq_some_iff.1 hy
  intro x hx
  rcases List.mem_append.1 hx with e | e
  · have := (List.pairwise_append.1 h).2.2 x e y (by simp); omega
  · have : x = y := by simpa using e
    omega
theorem BI.ends (h : BI g i j ls) (k : Nat) : endsW (row ls k) (i : Int) = true ↔ (i : Int) ∈ row ls k := by
  simp only [endsW, decide_eq_true_eq]
  constructor
  · intro e; exact List.mem_of_getLast? e
  · intro hm
    have hne : row ls k ≠ [] := List.ne_nil_of_mem hm
    obtain ⟨y, hy⟩ : ∃ y, (row ls k).getLast? = some y := ⟨_, List.getLast?_eq_some_getLast hne⟩
    have h1 := inc_last (h.inc k) hy _ hm
    have h2 := h.le (List.mem_of_getLast? hy)
    have : y = (i : Int) := by omega
    rw [← this]; exact hy
theorem take_mem {l : List Int} {j : Nat} (h : j < l.length) {x : Int} : x ∈ l.take (j + 1) ↔ x ∈ l.take j ∨ x = l[j] := by
  rw [List.take_succ_eq_append_getElem h, List.mem_append, List.mem_singleton]
theorem BI.no (h : BI g i j ls) (hj : j < (row g i).length) (hn : ¬ (0 ≤ (row g i)[j] ∧ (row g i)[j] < (g.length : Int))) : BI g i (j + 1) ls :=
  ⟨h.len, h.inc, fun k x => by
    rw [h.iff]
    refine and_congr_right fun hk => exists_congr fun a => and_congr_right fun _ => or_congr_right (and_congr_right fun _ => ?_)
    rw [take_mem hj]
    exact ⟨Or.inl, fun r => r.elim id fun e => absurd ⟨by omega, by omega⟩ hn⟩⟩
theorem BI.has (h : BI g i j ls) (hj : j < (row g i).length) {k : Nat} (hk : (row g i)[j] = (k : Int)) (hm : (i : Int) ∈ row ls k) : BI g i (j + 1) ls :=
  ⟨h.len, h.inc, fun k' x => by
    rw [h.iff]
    refine and_congr_right fun hk' => exists_congr fun a => and_congr_right fun _ => or_congr_right (and_congr_right fun _ => ?_)
    rw [take_mem hj]
    refine ⟨Or.inl, fun r => r.elim id fun e => ?_⟩
    rw [hk] at e
    obtain rfl : k' = k := by omega
    obtain ⟨_, a, ha, r | r⟩ := (h.iff k' i).1 hm
    · omega
    · exact r.2⟩
theorem BI.push (h : BI g i j ls) (hj : j < (row g i).length) {k : Nat} (hk : (row g i)[j] = (k : Int)) (hkl : k < g.length) (hm : (i : Int) ∉ row ls k) : BI g i (j + 1) (ls.set k (row ls k ++ [(i : Int)])) := by
  have hkls : k < ls.length := by rw [h.len]; exact hkl
  refine ⟨by simp [h.len], fun k' => ?_, fun k' x => ?_⟩
  · rw [row_set hkls]
    by_cases e : k' = k
    · rw [if_pos e]
      refine List.pairwise_append.2 ⟨h.inc k, List.pairwise_singleton _ _, fun a ha b hb => ?_⟩
      have hb : b = (i : Int) := by simpa using hb
      have := h.le ha
      have : a ≠ (i : Int) := fun e => hm (e ▸ ha)
      omega
    · rw [if_neg e]; exact h.inc k'
  · rw [row_set hkls]
    by_cases e : k' = k
    · subst e
      rw [if_pos rfl, List.mem_append, List.mem_singleton, h.iff]
      constructor
      · rintro (⟨h1, a, h2, h3⟩ | rfl)
        · exact ⟨h1, a, h2, h3.imp id fun r => ⟨r.1, (take_mem hj).2 (Or.inl r.2)⟩⟩
        · exact ⟨hkl, i, rfl, Or.inr ⟨rfl, (take_mem hj).2 (Or.inr hk.symm)⟩⟩
      · rintro ⟨h1, a, h2, h3 | ⟨rfl, h3⟩⟩
        · exact Or.inl ⟨h1, a, h2, Or.inl h3⟩
        · exact Or.inr h2
    · rw [if_neg e, h.iff]
      refine and_congr_right fun hk' => exists_congr fun a => and_congr_right fun _ => or_congr_right (and_congr_right fun _ => ?_)
      rw [take_mem hj]
      exact ⟨Or.inl, fun r => r.elim id fun e' => absurd (show k' = k by omega) e⟩
theorem BI.next (h : BI g i (row g i).length ls) : BI g (i + 1) 0 ls :=
  ⟨h.len, h.inc, fun k x => by
    rw [h.iff]
    refine and_congr_right fun hk => exists_congr fun a => and_congr_right fun _ => ?_
    rw [List.take_of_length_le (Nat.le_refl _), List.take_zero]
    constructor
    · rintro (r | ⟨rfl, r⟩)
      · exact Or.inl ⟨by omega, r.2⟩
      · exact Or.inl ⟨by omega, mem_nodesOf.2 ⟨r, hk⟩⟩
    · rintro (⟨r1, r2⟩ | ⟨_, r⟩)
      · by_cases e : a = i
        · subst e; exact Or.inr ⟨rfl, (mem_nodesOf.1 r2).1⟩
        · exact Or.inl ⟨by omega, r2⟩
      · simp at r⟩
theorem BI.done (h : BI g g.length 0 ls) : Exact g.length (BefP g) ls :=
  ⟨h.len, h.inc, fun k x => by
    rw [h.iff]
    constructor
    · rintro ⟨_, a, rfl, r | r⟩
      · exact ⟨a, rfl, r.2⟩
      · simp at r
    · rintro ⟨a, rfl, hk⟩
      exact ⟨fol_lt hk, a, rfl, Or.inl ⟨fol_from hk, hk⟩⟩⟩
end
end Go.Proofs.Ytlmlgdojmcmllaa


