/- What is ahead of a byte and behind it, plainly. -/
import Derived.Test.YtcmfmfgedhfaeaaGreatDoorPc
namespace Go.Proofs.YtcmfmfgedhfaeaaGreatDoor
set_option linter.unusedSimpArgs false
set_option linter.unusedVariables false

def cutR (c : UInt8) : List UInt8 → List UInt8 × List UInt8 × Bool
  | [] => ([], [], false)
  | x :: r => if x = c then ([], r, true) else (x :: (cutR c r).1, (cutR c r).2.1, (cutR c r).2.2)
theorem idx_one (c x : UInt8) (l : List UInt8) : Lib.index (x :: l) [c] = if x = c then 0 else if Lib.index l [c] = -1 then -1 else Lib.index l [c] + 1 := by
  have hp : [c].isPrefixOf (x :: l) = (c == x) := by simp [List.isPrefixOf]
  rw [show Lib.index (x :: l) [c] = (if [c].isPrefixOf (x :: l) then 0 else if Lib.index l [c] == -1 then -1 else Lib.index l [c] + 1) from rfl, hp]
  by_cases h : x = c
  · subst h; simp
  · have h' : ¬ c = x := fun e => h e.symm
    simp [h, h']
theorem cut_eq (c : UInt8) : ∀ l : List UInt8, Lib.cut l [c] = cutR c l
  | [] => by unfold Lib.cut; simp [Lib.index, cutR]
  | x :: l => by
    have ih := cut_eq c l
    have hge := Lib.index_ge l [c]
    unfold Lib.cut at ih ⊢
    rw [idx_one]
    simp only [cutR]
    by_cases h : x = c
    · subst h; simp
    · rw [if_neg h, if_neg h, ← ih]
      by_cases h1 : Lib.index l [c] = -1
      · rw [if_pos h1, h1]; simp
      · rw [if_neg h1, if_pos (by omega), if_pos (by omega)]
        have e1 : (Lib.index l [c] + 1).toNat = (Lib.index l [c]).toNat + 1 := by omega
        rw [e1]
        simp
theorem cutR_hit (c : UInt8) : ∀ l : List UInt8, (cutR c l).2.2 = true → l = (cutR c l).1 ++ c :: (cutR c l).2.1
  | [], h => by simp [cutR] at h
  | x :: l, h => by
    simp only [cutR] at h ⊢
    by_cases e : x = c
    · subst e; simp
    · rw [if_neg e] at h ⊢
      have := cutR_hit c l h
      simp only [List.cons_append]
      rw [← this]
theorem cutR_miss (c : UInt8) : ∀ l : List UInt8, (cutR c l).2.2 = false → (cutR c l).1 = l ∧ (cutR c l).2.1 = [] ∧ c ∉ l
  | [], h => by simp [cutR]
  | x :: l, h => by
    simp only [cutR] at h ⊢
    by_cases e : x = c
    · rw [if_pos e] at h; simp at h
    · rw [if_neg e] at h ⊢
      obtain ⟨h1, h2, h3⟩ := cutR_miss c l h
      refine ⟨by rw [h1], h2, ?_⟩
      simp only [List.mem_cons, not_or]
      exact ⟨fun k => e k.symm, h3⟩
theorem cutR_out (c : UInt8) : ∀ l : List UInt8, c ∉ (cutR c l).1
  | [] => by simp [cutR]
  | x :: l => by
    simp only [cutR]
    by_cases e : x = c
    · rw [if_pos e]; simp
    · rw [if_neg e]
      simp only [List.mem_cons, not_or]
      exact ⟨fun k => e k.symm, cutR_out c l⟩
end Go.Proofs.YtcmfmfgedhfaeaaGreatDoor
