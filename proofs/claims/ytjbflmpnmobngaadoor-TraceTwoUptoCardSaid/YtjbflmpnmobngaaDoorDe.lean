/- To begin is an order, to refine goes through: the plain facts; what stays when nothing that was there turns. -/
import Derived.Test.YtjbflmpnmobngaaDoorDd
namespace Go.Proofs.YtjbflmpnmobngaaDoor
set_option linter.unusedSimpArgs false
set_option linter.unusedVariables false
open Go.RowKit

def Stays (w w' : World) : Prop := ∀ B i v, w.cell? ⟨B, i, none⟩ = some v → w'.cell? ⟨B, i, none⟩ = some v
theorem stays_below {w w' : World} (h : Below w.heap.size w w') : Stays w w' := fun B i v hv => by rw [h.cell (p := ⟨B, i, none⟩) (cell_lt hv), hv]
theorem Stays.trans {a b c : World} (h : Stays a b) (k : Stays b c) : Stays a c := fun B i v hv => k B i v (h B i v hv)
theorem ValsAt.stays {w w' : World} {p : Option Addr} {n : Nat} {f : Nat → V3} (h : ValsAt w p n f) (hf : Stays w w') : ValsAt w' p n f := by
  rcases h with h | ⟨B, off, hp, hc⟩
  · exact Or.inl h
  · exact Or.inr ⟨B, off, hp, fun i hi => ⟨hf _ _ _ (hc i hi).1, hf _ _ _ (hc i hi).2.1, hf _ _ _ (hc i hi).2.2⟩⟩
theorem Ev.okAt.stays {w w' : World} {e : Ev} (h : e.okAt w) (hf : Stays w w') : e.okAt w' := ⟨h.1.stays hf, h.2⟩
theorem EvsAt.stays {w w' : World} {p : Option Addr} {n : Nat} {f : Nat → Ev} (h : EvsAt w p n f) (hf : Stays w w') : EvsAt w' p n f := by
  rcases h with h | ⟨B, off, hp, hc⟩
  · exact Or.inl h
  · exact Or.inr ⟨B, off, hp, fun i hi => ⟨⟨hf _ _ _ (hc i hi).1.1, hf _ _ _ (hc i hi).1.2.1, hf _ _ _ (hc i hi).1.2.2.1, hf _ _ _ (hc i hi).1.2.2.2.1, hf _ _ _ (hc i hi).1.2.2.2.2⟩, (hc i hi).2.stays hf⟩⟩
theorem Oc.okAt.stays {w w' : World} {o : Oc} (h : o.okAt w) (hf : Stays w w') : o.okAt w' := ⟨h.1.stays hf, h.2⟩

theorem eqV_iff {n m : Nat} {f g : Nat → V3} : eqV n m f g = true ↔ n = m ∧ ∀ i, i < n → f i = g i := by
  unfold eqV
  simp only [Bool.and_eq_true, beq_iff_eq, List.all_eq_true, List.mem_range, sameV_iff]
theorem sameE_iff {a b : Ev} : sameE a b = true ↔ a.nm.toList = b.nm.toList ∧ a.r = b.r ∧ a.n = b.n ∧ ∀ i, i < a.n → a.f i = b.f i := by
  unfold sameE
  simp only [Bool.and_eq_true, decide_eq_true_eq, sameV_iff, eqV_iff]
theorem sameE_refl (a : Ev) : sameE a a = true := sameE_iff.2 ⟨rfl, rfl, rfl, fun _ _ => rfl⟩
theorem sameE_symm {a b : Ev} (h : sameE a b = true) : sameE b a = true := by
  obtain ⟨h1, h2, h3, h4⟩ := sameE_iff.1 h
  exact sameE_iff.2 ⟨h1.symm, h2.symm, h3.symm, fun i hi => (h4 i (by omega)).symm⟩
theorem sameE_trans {a b c : Ev} (h : sameE a b = true) (k : sameE b c = true) : sameE a c = true := by
  obtain ⟨h1, h2, h3, h4⟩ := sameE_iff.1 h
  obtain ⟨k1, k2, k3, k4⟩ := sameE_iff.1 k
  exact sameE_iff.2 ⟨h1.trans k1, h2.trans k2, h3.trans k3, fun i hi => (h4 i hi).trans (k4 i (by omega))⟩
theorem eqE_iff {n m : Nat} {f g : Nat → Ev} : eqE n m f g = true ↔ n = m ∧ ∀ i, i < n → sameE (f i) (g i) = true := by
  unfold eqE
  simp only [Bool.and_eq_true, beq_iff_eq, List.all_eq_true, List.mem_range]
theorem begO_iff {a b : Oc} : begO a b = true ↔ a.n ≤ b.n ∧ ∀ i, i < a.n → sameE (a.f i) (b.f i) = true := by
  unfold begO begE
  simp only [Bool.and_eq_true, decide_eq_true_eq, eqE_iff, true_and]
theorem begO_refl (a : Oc) : begO a a = true := begO_iff.2 ⟨Nat.le_refl _, fun _ _ => sameE_refl _⟩
theorem begO_anti {a b : Oc} (h : begO a b = true) (k : begO b a = true) : a.n = b.n := Nat.le_antisymm (begO_iff.1 h).1 (begO_iff.1 k).1
theorem begO_trans {a b c : Oc} (h : begO a b = true) (k : begO b c = true) : begO a c = true := by
  obtain ⟨h1, h2⟩ := begO_iff.1 h
  obtain ⟨k1, k2⟩ := begO_iff.1 k
  exact begO_iff.2 ⟨Nat.le_trans h1 k1, fun i hi => sameE_trans (h2 i hi) (k2 i (by omega))⟩
theorem sameO_iff {a b : Oc} : sameO a b = true ↔ a.st = b.st ∧ a.code = b.code ∧ a.n = b.n ∧ ∀ i, i < a.n → sameE (a.f i) (b.f i) = true := by
  unfold sameO
  simp only [Bool.and_eq_true, beq_iff_eq, eqE_iff]
theorem sameO_beg {a b : Oc} (h : sameO a b = true) : begO a b = true ∧ begO b a = true := by
  obtain ⟨_, _, h3, h4⟩ := sameO_iff.1 h
  exact ⟨begO_iff.2 ⟨by omega, h4⟩, begO_iff.2 ⟨by omega, fun i hi => sameE_symm (h4 i (by omega))⟩⟩
theorem sameO_trans {a b c : Oc} (h : sameO a b = true) (k : sameO b c = true) : sameO a c = true := by
  obtain ⟨h1, h2, h3, h4⟩ := sameO_iff.1 h
  obtain ⟨k1, k2, k3, k4⟩ := sameO_iff.1 k
  exact sameO_iff.2 ⟨h1.trans k1, h2.trans k2, h3.trans k3, fun i hi => sameE_trans (h4 i hi) (k4 i (by omega))⟩
/-- What is allowed of what is allowed is allowed, where the one between has exited (or is none of the known ends). -/
theorem refO_trans {a b c : Oc} (h0 : b.st ≠ 0) (h2 : b.st ≠ 2) (h3 : b.st ≠ 3) (h : refO a b = true) (k : refO b c = true) : refO a c = true := by
  have hb : b.st = 1 := by
    unfold refO isSt at h
    split at h
    · rename_i q
      simp [h0, h2, h3] at q
      exact q
    · cases h
  unfold refO at k h ⊢
  split at k
  · rename_i qc
    rw [if_pos qc]
    rw [hb] at k h
    simp only [BEq.rfl, if_true] at k
    rw [if_pos (show isSt 1 = true from rfl)] at h
    unfold endsO at k
    split at h
    · rename_i qa
      rw [if_pos qa]
      unfold endsO at h ⊢
      rw [hb] at h
      simp only [BEq.rfl, if_true] at h
      split at k
      · rename_i q1
        rw [if_pos q1]; exact sameO_trans h k
      · rename_i q1
        rw [if_neg q1]
        split at k
        · rename_i q2
          rw [if_pos q2]; exact begO_trans k (sameO_beg h).2
        · cases k
    · rename_i qa
      rw [if_neg qa]
      split at h
      · rename_i q0
        rw [if_pos q0]
        rw [Bool.or_eq_true] at h ⊢
        have key : begO b c = true ∧ begO c b = true ∨ begO c b = true := by
          split at k
          · exact Or.inl (sameO_beg k)
          · split at k
            · exact Or.inr k
            · cases k
        have hcb : begO c b = true := by rcases key with q | q; exact q.2; exact q
        rcases h with h | h
        · -- a begins b, c begins b
          by_cases hn : a.n ≤ c.n
          · left
            refine begO_iff.2 ⟨hn, fun i hi => sameE_trans ((begO_iff.1 h).2 i hi) (sameE_symm ((begO_iff.1 hcb).2 i (by omega)))⟩
          · right
            refine begO_iff.2 ⟨by omega, fun i hi => sameE_trans ((begO_iff.1 hcb).2 i hi) (sameE_symm ((begO_iff.1 h).2 i (by omega)))⟩
        · right
          exact begO_trans hcb h
      · cases h
  · cases k
end Go.Proofs.YtjbflmpnmobngaaDoor
