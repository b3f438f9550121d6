/- The order's closure: a node put onto the way. -/
import Derived.Test.YtlmlgdojmcmllaaTh
namespace Go.Proofs.Ytlmlgdojmcmllaa
set_option linter.unusedSimpArgs false
set_option linter.unusedVariables false
open Go.RowKit
open Solve

theorem stop_info : (Try.prog.info? 48).map (fun i => (i.zero, i.size, i.bytes)) = some (some (.agg #[.int .i64 0, .slice none 0 0]), 2, 32) := by kernel_rfl
theorem EO.grown {w0 : World} {p2 p6 p7 B n : Nat} {nv : Value} {w wa w5 : World} {V : Nat → Prop} {l : List Nat} {ov : Value} {st : List Stp} {u : Value} {ord : List Nat} (h : EO w0 p2 p6 p7 B n nv w V l ov st u ord) (ha : Fresh w wa) (hg : wa.grownBy w5 ov.ownBlock) :
    w5.cell? ⟨p6, 0, none⟩ = some ov ∧ w5.frozen? ⟨p6, 0, none⟩ = false ∧ Keep (fun k => ov.ownBlock = some k) w w5 := by
  have z6 := heap_lt h.h6
  have hz := ha.size
  have h5 : w5.heap[p6]? = some (.cells #[ov] 46 (0, 0)) := by
    rw [hg.block p6 (by omega) (fun e => (h.d2 _ e.symm).2.2.1 rfl), ha.below.block p6 z6]; exact h.h6
  exact ⟨by rw [cell_of_row w5 p6 0 _ 46 (0, 0) h5]; rfl, frozen_of h5 0, (Keep.of ha).grown hg fun k hk => hk⟩
def EntP (w0 : World) (p2 p6 p7 B : Nat) (g : Graph) (nv : Value) (l : List Nat) (st : List Stp) (i : Int) (u : Value) (ord : List Nat) (w' : World) : Prop :=
  ∃ V' ov' st', EO w0 p2 p6 p7 B g.length nv w' V' (comeL g.length l i) ov' st' u ord ∧ (isNew g.length l i = false → st' = st) ∧ (isNew g.length l i = true → ∃ rv, st' = st ++ [(i.toNat, rv, row g i.toNat)])
set_option maxHeartbeats 8000000 in
set_option maxRecDepth 100000 in
theorem order1_any (w0 : World) (p2 p6 p7 B : Nat) (g : Graph) (nv : Value) (w : World) (V : Nat → Prop) (l : List Nat) (ov : Value) (st : List Stp) (u : Value) (ord : List Nat) (i : Int) (hg : Sm g) (hr : Rows2 T T w0 nv g) (hE : EO w0 p2 p6 p7 B g.length nv w V l ov st u ord) (hl : st.length ≤ l.length) :
    Calls Try.prog 31 #[.int .i64 i, .pointer (some ⟨p7, 0, none⟩), .pointer (some ⟨p6, 0, none⟩), .pointer (some ⟨p2, 0, none⟩)] w fun e w' => e = .returned (.tuple #[]) ∧ EntP w0 p2 p6 p7 B g nv l st i u ord w' := by
  have HR := Lib.hid hr
  have HE := Lib.hid hE
  have hgl := hg.len
  have hll := hE.vst.len
  have c7 : w.cell? ⟨p7, 0, none⟩ = some (.pointer (some ⟨B, 0, none⟩)) := by rw [cell_of_row w p7 0 _ 39 (0, 0) hE.h7]; rfl
  obtain ⟨i1, hi, hh⟩ := Option.map_eq_some_iff.1 stop_info
  have hz0 : i1.zero = some (.agg #[.int .i64 0, .slice none 0 0]) := congrArg (·.1) hh
  have hz1 : i1.size = 2 := congrArg (·.2.1) hh
  have hz2 : i1.bytes = 32 := congrArg (·.2.2) hh
  clear hh hr hg hE
  cases hn : isNew g.length l i with
  | false =>
    have HN := Lib.hid hn
    clear hn
    go_enter Try.func31, Try.ntmps31
    go_wp2_with (go_at_call 27; (with_reducible refine (come_any V B g.length l i _ (by omega) HE.out.vst).mono ?_); rintro e w1 ⟨rfl, h1⟩; rw [HN.out]; have HC := Lib.hid h1; clear h1)
    go_end0
    obtain ⟨V', hE'⟩ := HE.out.come HC.out
    exact ⟨rfl, V', ov, st, hE', fun _ => rfl, fun h => by rw [HN.out] at h; cases h⟩
  | true =>
    have HN := Lib.hid hn
    simp only [isNew, decide_eq_true_eq] at hn
    obtain ⟨k, rfl⟩ : ∃ k : Nat, i = k := ⟨i.toNat, by omega⟩
    have hk : k < g.length := by omega
    clear hn
    go_enter Try.func31, Try.ntmps31
    go_upto_region 1 with (go_at_call 27; (with_reducible refine (come_any V B g.length l k _ (by omega) HE.out.vst).mono ?_); rintro e w1 ⟨rfl, h1⟩; rw [HN.out]; have HC := Lib.hid h1; clear h1)
    obtain ⟨V1, hE1⟩ := HE.out.come HC.out
    have HE1 := Lib.hid hE1
    obtain ⟨p, cap, rfl, ⟨hc, hm⟩, hh⟩ := HR.out.form
    unfold maxLen at hm
    obtain ⟨B0, off, x, rfl, _, cu0, hx⟩ := hh k hk
    have cu := hE1.fr.sts (fun _ => True) _ _ _ trivial cu0
    obtain ⟨q, c, rfl, _, _⟩ := hx.form
    have HX := Lib.hid hx
    have c6 : w1.cell? ⟨p6, 0, none⟩ = some ov := by rw [cell_of_row w1 p6 0 _ 46 (0, 0) hE1.h6]; rfl
    have c2 : w1.cell? ⟨p2, 0, none⟩ = some (.slice (some ⟨B0, off, none⟩) g.length cap) := by rw [cell_of_row w1 p2 0 _ 22 (0, 0) hE1.h2]; rfl
    have z6 := cell_lt c6
    have z2 := cell_lt c2
    have zu := cell_lt cu
    simp only at z6 z2 zu
    obtain ⟨wa, hwa⟩ : ∃ wa, wa = (w1.alloc (.cells #[.int .i64 (k : Int), .slice q (row g k).length c] 48)).drew := ⟨_, rfl⟩
    have HWA : Hid (Fresh w1 wa ∧ wa.heap[w1.heap.size]? = some (.cells #[.int .i64 (k : Int), .slice q (row g k).length c] 48 (0, 0)) ∧ wa.heap.size = w1.heap.size + 1) := Lib.hid (by
      rw [hwa]
      exact ⟨((Fresh.refl _).alloc _ _).drew, heap_alloc_new w1 _, by simp⟩)
    have HOW := Lib.hid (HWA.out.1.own hE1.own)
    have HW := Lib.hid hwa
    have hsz : w0.heap.size ≤ w1.heap.size := hE1.fr.size
    clear hE1 hh cu0 hx hwa c7
    go_region_law (refine step_append_lies _ (by rfl) (.tmp 8) (.tmp 15) 46 (by rfl) w0.heap.size 48 i1 (.agg #[.int .i64 0, .slice none 0 0]) 2 32 Try.underlying46 hi hz0 hz1 hz2 rfl (by decide) ov st.length (flatS st) (by rfl) (by rw [← HW.out]; exact HOW.out) ⟨w1.heap.size, 0, none⟩ 1 1 [.int .i64 (k : Int), .slice q (row g k).length c] (by rfl) (by rfl) (World.news_of_block (cs := #[.int .i64 (k : Int), .slice q (row g k).length c]) (t := 48) (fr := (0, 0)) (by rw [← HW.out]; exact HWA.out.2.1)) (by simp [Value.oneCell']) (by decide) (by unfold maxLen; omega) (by omega) (by simp; omega) (w1.heap.size + 1) (by simp) ?_; intro gb cap2 w5 hown5 hgrow hat hlt5; rw [← HW.out] at hgrow; have H5 := Lib.hid hown5; have G5 := Lib.hid hgrow; have A5 := Lib.hid hat; obtain ⟨c9, f9, k9⟩ := HE1.out.grown HWA.out.1 hgrow; have K9 := Lib.hid k9; clear hown5 hgrow hat hlt5 k9 c6 c2 cu)
    all_goals
      go_end0
      have hE5 := EO.open' (st' := st ++ [(k, .slice q (row g k).length c, row g k)]) HE1.out K9.out (fun _ h => h) (by rw [flatS_app, List.length_append]; exact H5.out) (fun x hx => by
        have hx : some gb = some x := hx
        injection hx with hx
        subst hx
        rcases A5.out with r | r
        · exact Or.inl r
        · exact Or.inr (by omega)) (fun s hs => by
        rcases List.mem_append.1 hs with r | r
        · exact HE1.out.rest s r
        · have : s = (k, .slice q (row g k).length c, row g k) := by simpa using r
          rw [this]; exact HX.out)
      exact ⟨rfl, V1, _, _, hE5, (fun h => by rw [HN.out] at h; cases h), fun _ => ⟨.slice q (row g k).length c, by rw [Int.toNat_natCast]⟩⟩
end Go.Proofs.Ytlmlgdojmcmllaa
