/- Runes of a text against its bytes, plainly. -/
import Derived.Lib.RuneCount
namespace Go.Proofs.YtcmfmfgedhfaeaaGreatDoor
set_option linter.unusedSimpArgs false
set_option linter.unusedVariables false

theorem get_getD (s : ByteArray) (i : Nat) : s.get! i = s.data.toList.getD i 0 := by
  cases s with | mk d => 
  show d[i]! = _
  by_cases h : i < d.size
  · simp [h, List.getD]
  · simp [h, List.getD]; rfl
theorem dec_lo (s : ByteArray) (pos : Nat) (hb : (s.data.toList.getD pos 0).toNat < 128) : Utf8.decode s pos = ((s.data.toList.getD pos 0).toNat, 1) := by
  unfold Utf8.decode
  simp only [get_getD, Nat.add_zero, hb, if_true]
theorem dec_hi (s : ByteArray) (pos : Nat) (h : pos < s.size) (hb : ¬ (s.data.toList.getD pos 0).toNat < 128) :
    128 ≤ (Utf8.decode s pos).1 ∧ 1 ≤ (Utf8.decode s pos).2 ∧ pos + (Utf8.decode s pos).2 ≤ s.size ∧ ∀ j, pos ≤ j → j < pos + (Utf8.decode s pos).2 → 128 ≤ (s.data.toList.getD j 0).toNat := by
  have one : (128 ≤ Utf8.runeError) ∧ 1 ≤ 1 ∧ pos + 1 ≤ s.size ∧ ∀ j, pos ≤ j → j < pos + 1 → 128 ≤ (s.data.toList.getD j 0).toNat := by
    refine ⟨by decide, by omega, by omega, fun j h1 h2 => ?_⟩
    have : j = pos := by omega
    subst this; omega
  unfold Utf8.decode
  simp only [get_getD, Nat.add_zero, hb, if_false]
  split
  · rename_i h1
    simp only [Bool.and_eq_true, beq_iff_eq, decide_eq_true_eq] at h1
    split
    · rename_i h2
      refine ⟨by omega, by omega, by omega, fun j j1 j2 => ?_⟩
      have : j = pos ∨ j = pos + 1 := by omega
      rcases this with rfl | rfl <;> omega
    · exact one
  · split
    · rename_i h1
      simp only [Bool.and_eq_true, beq_iff_eq, decide_eq_true_eq] at h1
      split
      · rename_i h2
        simp only [Bool.and_eq_true, decide_eq_true_eq] at h2
        refine ⟨by omega, by omega, by omega, fun j j1 j2 => ?_⟩
        have : j = pos ∨ j = pos + 1 ∨ j = pos + 2 := by omega
        rcases this with rfl | rfl | rfl <;> omega
      · exact one
    · split
      · rename_i h1
        simp only [Bool.and_eq_true, beq_iff_eq, decide_eq_true_eq] at h1
        split
        · rename_i h2
          simp only [Bool.and_eq_true, decide_eq_true_eq] at h2
          refine ⟨by omega, by omega, by omega, fun j j1 j2 => ?_⟩
          have : j = pos ∨ j = pos + 1 ∨ j = pos + 2 ∨ j = pos + 3 := by omega
          rcases this with rfl | rfl | rfl | rfl <;> omega
        · exact one
      · exact one
theorem size_list (s : ByteArray) : s.size = s.data.toList.length := by cases s; simp [ByteArray.size]
theorem drop_cons (l : List UInt8) (k : Nat) (h : k < l.length) : l.drop k = l.getD k 0 :: l.drop (k + 1) := by
  rw [List.drop_eq_getElem_cons h, List.getD_eq_getElem?_getD, List.getElem?_eq_getElem h]; rfl
end Go.Proofs.YtcmfmfgedhfaeaaGreatDoor
