/- A text that is one number, plainly. -/
import Derived.Test.YtcmfmfgedhfaeaaGreatDoorMd
namespace Go.Proofs.YtcmfmfgedhfaeaaGreatDoor
set_option linter.unusedSimpArgs false
set_option linter.unusedVariables false
open Go.RowKit

theorem getD_mem (l : List UInt8) (i : Nat) (h : i < l.length) : l.getD i 0 ∈ l := by
  rw [List.getD_eq_getElem?_getD, List.getElem?_eq_getElem h]
  exact List.getElem_mem h
theorem numZ_lo (c : UInt8) (h : numZ (c.toNat : Int) = true) : c.toNat < 128 ∧ c.toNat ≠ 10 := by
  constructor
  · rcases Nat.lt_or_ge c.toNat 128 with h1 | h1
    · exact h1
    · rw [numZ_hi _ (by omega)] at h; cases h
  · intro h1
    rw [h1] at h
    revert h
    decide
theorem one_broken (s : ByteArray) (hall : ∀ c ∈ s.data.toList, numZ (c.toNat : Int) = true) : ∀ f pos l c, brokF s f pos l c = none
  | 0, pos, l, c => rfl
  | f + 1, pos, l, c => by
    unfold brokF
    split
    · rename_i h
      have hm := numZ_lo _ (hall _ (getD_mem s.data.toList pos (by rw [← size_list]; exact h)))
      rw [dec_lo s pos hm.1]
      rw [if_neg (by intro e; have := congrArg Prod.fst e; simp only at this; omega)]
      exact one_broken s hall f _ _ _
    · rfl
theorem one_skip (s : ByteArray) (hall : ∀ c ∈ s.data.toList, numZ (c.toNat : Int) = true) : ∀ f pos c, pos ≤ s.size → s.size ≤ pos + f → piecesF s f pos s.size 1 c = .ok [endT 1 (c + ((s.size - pos : Nat) : Int))]
  | 0, pos, c, h1, h2 => by
    have : s.size - pos = 0 := by omega
    rw [this]
    simp [piecesF]
  | f + 1, pos, c, h1, h2 => by
    by_cases h : pos < s.size
    · have hm := numZ_lo _ (hall _ (getD_mem s.data.toList pos (by rw [← size_list]; exact h)))
      unfold piecesF
      rw [if_pos h, if_neg (fun e => by omega), dec_lo s pos hm.1]
      have hb : behZ 1 c ((s.data.toList.getD pos 0).toNat : Int) = (1, c + 1) := by
        unfold behZ
        rw [if_neg (by omega)]
      simp only [hb]
      rw [one_skip s hall f (pos + 1) (c + 1) (by omega) (by omega)]
      congr 3
      omega
    · have : s.size - pos = 0 := by omega
      rw [piecesF_end _ _ _ _ _ _ h, this]
      simp
theorem ext_all (s : ByteArray) : s.extract 0 s.size = s := by simp
theorem span_all (p : Int → Bool) : ∀ l : List UInt8, (∀ c ∈ l, p (c.toNat : Int) = true) → spanL p l = l.length
  | [], _ => rfl
  | c :: r, h => by
    simp only [spanL, List.length_cons]
    rw [if_pos (h c (by simp)), span_all p r (fun x hx => h x (by simp [hx]))]
    omega
theorem one_number (s : ByteArray) (n : Nat) (h1 : 1 ≤ s.size) (hs : s.size ≤ 1048576) (hall : ∀ c ∈ s.data.toList, numZ (c.toNat : Int) = true)
    (hd : digitZ ((s.data.toList.getD 0 0).toNat : Int) = true) (hw : wholeL s.data.toList = some n) :
    tokensF s = .ok [⟨3, 1, 1, s, n, ⟨#[]⟩⟩, endT 1 (1 + (s.size : Int))] := by
  unfold tokensF
  rw [if_neg (by omega), one_broken s hall]
  unfold brokT
  obtain ⟨f, hf⟩ : ∃ f, s.size = f + 1 := ⟨s.size - 1, by omega⟩
  have hm := numZ_lo _ (hall _ (getD_mem s.data.toList 0 (by rw [← size_list]; exact h1)))
  have hnl : letterZ ((s.data.toList.getD 0 0).toNat : Int) = false := by
    simp only [digitZ, Bool.and_eq_true, decide_eq_true_eq] at hd
    simp only [letterZ, Bool.or_eq_false_iff, Bool.and_eq_false_iff, decide_eq_false_iff_not, beq_eq_false_iff_ne]
    omega
  have hbl : blankZ ((s.data.toList.getD 0 0).toNat : Int) = false := by
    simp only [digitZ, Bool.and_eq_true, decide_eq_true_eq] at hd
    simp only [blankZ, Bool.or_eq_false_iff, beq_eq_false_iff_ne]
    omega
  have hp : pieceL s.data.toList = .tok 3 s.size n [] := by
    have hl : s.data.toList = s.data.toList.getD 0 0 :: s.data.toList.drop 1 := by
      have := drop_cons s.data.toList 0 (by rw [← size_list]; omega)
      simpa using this
    have hp : pieceL s.data.toList = if letterZ ((s.data.toList.getD 0 0).toNat : Int) then nameL s.data.toList else if digitZ ((s.data.toList.getD 0 0).toNat : Int) then numL s.data.toList else if (s.data.toList.getD 0 0).toNat = 39 then charL s.data.toList else if (s.data.toList.getD 0 0).toNat = 34 then textL s.data.toList else signL s.data.toList := by
      generalize s.data.toList.getD 0 0 = c at *
      generalize s.data.toList.drop 1 = r at *
      rw [hl]
      rfl
    rw [hp, hnl, hd, if_neg (by decide), if_pos rfl]
    unfold numL
    rw [span_all numZ _ hall, List.take_length, hw, ← size_list]
  rw [show piecesF s s.size 0 0 1 1 = piecesF s (f + 1) 0 0 1 1 by rw [← hf]]
  unfold piecesF
  rw [if_pos (by omega), dec_lo s 0 hm.1, if_pos ⟨Nat.le_refl _, hbl⟩, List.drop_zero, hp]
  have hb : behZ 1 1 ((s.data.toList.getD 0 0).toNat : Int) = (1, 1 + 1) := by
    unfold behZ
    rw [if_neg (by omega)]
  have ht : tkOf s 0 1 1 3 s.size n [] = ⟨3, 1, 1, s, n, ⟨#[]⟩⟩ := by
    unfold tkOf
    rw [ext_all, ext_all]
    rfl
  simp only [stepT, ht, hb]
  simp only [Nat.zero_add]
  rw [one_skip s hall f 1 _ (by omega) (by omega)]
  have e : ((1 : Int) + 1 + ((s.size - 1 : Nat) : Int)) = 1 + (s.size : Int) := by omega
  rw [e]
  rfl
end Go.Proofs.YtcmfmfgedhfaeaaGreatDoor
