/- Lifting: what came in, as rows of numbers and as rows of rows; what stays; the rows' last step. -/
import Derived.Test.YtlmlgdojmcmllaaRx
import Derived.WideKeyArgs
import Derived.ChangeSlices
import Derived.OpenShut
import Derived.ProofKit
import Derived.Lib.SmallJoins
import Derived.Deep.Slices
import Derived.Deep.Matrix
import Derived.ChangeSame
import Derived.ChangeMaps5
import Derived.Below
namespace Go.Proofs.Ytlmlgdojmcmllaa
set_option linter.unusedSimpArgs false
set_option linter.unusedVariables false
open Go.ChangeShapes Go.WideShapes Go.ChangeAt Go.RowKit Go.Joins
open Solve

theorem cellsI : Try.prog.cellsOf 3 = 1 := by kernel_rfl
theorem cellsR : Try.prog.cellsOf 28 = 1 := by kernel_rfl
theorem plain_of {w : World} {a : Addr} {v : Value} (h : w.cell? (a.add 0) = some v) : ∃ b off, a = ⟨b, off, none⟩ := by
  obtain ⟨b, off, spot⟩ := a
  have hspot : spot = none := by simpa [Addr.add] using World.cell?_spot h
  subst hspot
  exact ⟨b, off, rfl⟩
set_option maxRecDepth 100000 in
/-- A row of numbers that came in. -/
theorem open_row {H : Type} {enc : TypeId × Value → H} {W : World} {v : Value} {d : DataW H} {ps : List MemPlace} (hok : Value.okWide Try.prog W .any 0 28 v) (h : DataW.Trod enc Try.prog W 0 (fun _ => true) true 28 v d ps) : ∃ l, Ints T W v l ∧ WdL l := by
  obtain ⟨a0, len, cap, rfl⟩ := okWide_slice Try.underlying28 hok
  obtain ⟨fuel, hf⟩ := h
  rcases open_ints Try.underlying28 Try.underlying3 cellsI hf with ⟨hcs, hx⟩ | ⟨a, len', cap', zs, hcs, _, hl, hm, hz, hx, hcell, hwz⟩
  · simp [Value.cells] at hcs
    obtain ⟨rfl, rfl, rfl⟩ := hcs
    exact ⟨[], Row.nil _ _, fun x hx => by simp at hx⟩
  · simp [Value.cells] at hcs
    obtain ⟨rfl, rfl, rfl⟩ := hcs
    simp at hz
    refine ⟨zs.take len, ⟨_, cap, by rw [nums_len, List.length_take, hz, Nat.min_eq_left hl], ⟨by rw [nums_len, List.length_take]; omega, hm⟩, ?_⟩, fun x hx => hwz x (List.mem_of_mem_take hx)⟩
    by_cases hn : len = 0
    · left; subst hn; simp [nums]
    · obtain ⟨b, off, rfl⟩ := plain_of (hcell 0 (by omega))
      refine Or.inr ⟨b, off, rfl, trivial, fun i u hu => ?_⟩
      have hi : i < len := by
        rcases Nat.lt_or_ge i (nums (zs.take len)).length with h | h
        · rw [nums_len, List.length_take] at h; omega
        · rw [List.getElem?_eq_none h] at hu; cases hu
      have hc := hcell i (by omega)
      rw [Addr.add_lit] at hc
      rw [hc]
      rw [nums_at _ _ (by rw [List.length_take]; omega)] at hu
      rw [← hu]
      congr 2
      simp [List.getD, hi]
set_option maxRecDepth 100000 in
/-- A row of rows that came in. -/
theorem open_rows {H : Type} {enc : TypeId × Value → H} {W : World} {v : Value} {d : DataW H} {ps : List MemPlace} (hok : Value.okWide Try.prog W .any 0 22 v) (h : DataW.Trod enc Try.prog W 0 (fun _ => true) true 22 v d ps) : ∃ g, Rows2 T T W v g ∧ Wd g := by
  obtain ⟨a0, len, cap, rfl⟩ := okWide_slice Try.underlying22 hok
  obtain ⟨fuel, hf⟩ := h
  rcases Go.Deep.open_int_rows Try.underlying22 Try.underlying28 Try.underlying3 cellsR cellsI hf with ⟨hcs, hx⟩ | ⟨a, len', cap', A, L, C, Z, hcs, _, hl, hm, hx, hr⟩
  · simp [Value.cells] at hcs
    obtain ⟨rfl, rfl, rfl⟩ := hcs
    exact ⟨[], ⟨[], rfl, Row.nil _ _, fun i u hu => by simp at hu⟩, fun i x hx => by simp [row] at hx⟩
  · simp [Value.cells] at hcs
    obtain ⟨rfl, rfl, rfl⟩ := hcs
    have hrow : ∀ r, r < len → Ints T W (.slice (A r) (L r) (C r)) ((Z r).take (L r)) := fun r hrl => by
      obtain ⟨_, h1, h2, h3, _, h5, h6⟩ := hr r (by omega)
      refine ⟨_, C r, by rw [nums_len, List.length_take, h3, Nat.min_eq_left h1], ⟨by rw [nums_len, List.length_take]; omega, h2⟩, ?_⟩
      by_cases hn : L r = 0
      · left; rw [hn]; simp [nums]
      · cases hA : A r with
        | none => have := h5 hA; omega
        | some a' =>
          obtain ⟨_, hc⟩ := h6 a' hA
          obtain ⟨b, off, rfl⟩ := plain_of (hc 0 (by omega))
          refine Or.inr ⟨b, off, rfl, trivial, fun i u hu => ?_⟩
          have hi : i < L r := by
            rcases Nat.lt_or_ge i (nums ((Z r).take (L r))).length with h | h
            · rw [nums_len, List.length_take] at h; omega
            · rw [List.getElem?_eq_none h] at hu; cases hu
          have hci := hc i (by omega)
          rw [Addr.add_lit] at hci
          rw [hci]
          rw [nums_at _ _ (by rw [List.length_take]; omega)] at hu
          rw [← hu]
          congr 2
          simp [List.getD, hi]
    refine ⟨(List.range len).map fun r => (Z r).take (L r), ⟨(List.range len).map fun r => .slice (A r) (L r) (C r), by simp, ⟨some a, cap, by simp, ⟨by simp; exact hl, hm⟩, ?_⟩, fun i u hu => ?_⟩, fun i x hx => ?_⟩
    · by_cases hn : len = 0
      · left; simp [hn]
      · obtain ⟨b, off, rfl⟩ := plain_of (hr 0 (by omega)).1
        refine Or.inr ⟨b, off, rfl, trivial, fun i u hu => ?_⟩
        have hi : i < len := by
          rcases Nat.lt_or_ge i len with h | h
          · exact h
          · rw [List.getElem?_eq_none (by simpa using h)] at hu; cases hu
        have hc := (hr i (by omega)).1
        rw [Addr.add_lit] at hc
        rw [hc]
        simpa [hi] using hu
    · have hi : i < len := by
        rcases Nat.lt_or_ge i len with h | h
        · exact h
        · rw [List.getElem?_eq_none (by simpa using h)] at hu; cases hu
      have e1 : u = .slice (A i) (L i) (C i) := by simpa [hi, eq_comm] using hu
      have e2 : row ((List.range len).map fun r => (Z r).take (L r)) i = (Z i).take (L i) := by simp [row, List.getD, hi]
      rw [e1, e2]
      exact hrow i hi
    · by_cases hi : i < len
      · have e2 : row ((List.range len).map fun r => (Z r).take (L r)) i = (Z i).take (L i) := by simp [row, List.getD, hi]
        rw [e2] at hx
        obtain ⟨_, _, _, _, hw, _, _⟩ := hr i (by omega)
        exact hw x (List.mem_of_mem_take hx)
      · rw [row_out (by simp; omega)] at hx; simp at hx
theorem laidOut : laidOutB Try.prog = true := by kernel_rfl
theorem all_stay {H : Type} {enc : TypeId × Value → H} {W W' : World} (hb : Below W.heap.size W W') (sp : Nat → Bool) : ∀ (ts : List TypeId), (∀ t ∈ ts, Try.prog.readableRec t = true ∧ t < Try.prog.types.size) →
    ∀ {vs : List Value} {ds : List (DataW H)} {p : List MemPlace}, DataW.TrodAll enc Try.prog W 0 (fun _ => true) true ts vs ds p → (∀ x ∈ p, x.block < W.heap.size) → (∀ x ∈ p, sp x.block = true) →
    DataW.TrodAll enc Try.prog W' 0 sp true ts vs ds p
  | [], _, _, _, _, h, _, _ => by
    obtain ⟨rfl, rfl, rfl⟩ := trodAll_nil h
    exact trodAll_mk0
  | t :: ts, hts, _, _, _, h, hlt, hsp => by
    obtain ⟨v, vs', d, ds', p, q, rfl, rfl, rfl, h0, h1⟩ := trodAll_cons h
    have ht := hts t (List.mem_cons_self ..)
    exact trodAll_cons_mk (WideElems.Trod_stays laidOut ht.1 ht.2 h0 (fun x hx => hb.same (hlt x (List.mem_append_left _ hx))) (fun x hx => hsp x (List.mem_append_left _ hx)))
      (all_stay hb sp ts (fun t' h' => hts t' (List.mem_cons_of_mem _ h')) h1 (fun x hx => hlt x (List.mem_append_right _ hx)) (fun x hx => hsp x (List.mem_append_right _ hx)))
theorem post_below {H : Type} {enc : TypeId × Value → H} {P : Program} {f : Func} {s : ChangeSpec} {apart fresh handsOn again : Bool} {W W' : World} {args : Array Value} {v : Value} {ds gs : List (DataW H)} {before pa pv : List MemPlace}
    (hW : DataW.Whole enc P f.params.toList s.vars apart W args.toList ds gs before)
    (res : ∀ (b : Nat) (sp : Nat → Bool) (hd : Bool), DataW.TrodAll enc P W' b sp hd f.resultTypes.toList (v.resultList f.resultTypes.size) (s.fn H (ds ++ gs)).results [])
    (arg : ∀ sp : Nat → Bool, (∀ p ∈ before, sp p.block = true) → DataW.TrodAll enc P W' 0 sp true f.params.toList args.toList (s.fn H (ds ++ gs)).args pa)
    (var : ∀ sp : Nat → Bool, (∀ p ∈ before, sp p.block = true) → DataW.TrodVars enc P W' sp s.vars (s.fn H (ds ++ gs)).vars pv)
    (e : before = pa ++ pv) (hb : Below W.heap.size W W')
    (ok : ∀ (j : Nat) (t : TypeId) (r : Value), f.resultTypes[j]? = some t → (v.resultList f.resultTypes.size)[j]? = some r → Value.okWide P W' .any 0 t r) :
    s.post enc P f apart fresh handsOn again W args v W' := by
  subst e
  have lt := fun p hp => hW.lt (p := p) hp
  have old : ∀ p ∈ pa ++ pv, decide (p.block < W.heap.size) = true := fun p hp => decide_eq_true (lt p hp)
  have hz := hW
  obtain ⟨_, _, _, _, _, froz, dup⟩ := hz
  refine ⟨ds, gs, pa ++ pv, [], pa, pv, hW, res _ _ _, arg _ old, var _ old, World.keptBut_mono (fun p hp => ⟨hp, ?_⟩) (hb.frame (· ∈ pa ++ pv)), fun _ => ?_⟩
  · exact (List.mem_append.1 hp).elim Or.inr Or.inl |>.symm.elim (fun h => by simp [h]) (fun h => by simp [h])
  · refine ⟨ok, _, _, ([] ++ pa) ++ pv, ⟨[] ++ pa, pv, trodAll_append (arg _ (fun _ _ => rfl)) (res _ _ _), var _ (fun _ _ => rfl), rfl, fun b off hp => ?_, fun ha => ?_⟩, fun p hp _ => ?_⟩
    · have m : MemPlace.cell b off ∈ pa ++ pv := by simpa using hp
      exact (hb.frozen (lt _ m)).trans (froz b off m)
    · simpa using dup ha
    · simpa using hp
end Go.Proofs.Ytlmlgdojmcmllaa
