/- Each form that LexNumbers writes is one number's token. -/
import Derived.Test.YtcmfmfgedhfaeaaGreatDoorMf
namespace Go.Proofs.YtcmfmfgedhfaeaaGreatDoor
set_option linter.unusedSimpArgs false
set_option linter.unusedVariables false
open Go.RowKit

theorem digL_len (b : Nat) : ∀ f v acc, (digL b f v acc).length ≤ f + acc.length
  | 0, v, acc => by simp [digL]
  | f + 1, v, acc => by
    unfold digL
    split
    · omega
    · have := digL_len b f (v / b) (dig (v % b) :: acc)
      simp only [List.length_cons] at this
      omega
theorem digL_head (b : Nat) (hb : 2 ≤ b ∧ b ≤ 16) : ∀ f v acc, v ≠ 0 → v < 2 ^ f → ∃ d r, d ≠ 0 ∧ d < b ∧ digL b f v acc = dig d :: r
  | 0, v, acc, h0, h => absurd (by simpa using h) h0
  | f + 1, v, acc, h0, h => by
    unfold digL
    rw [if_neg h0]
    by_cases hq : v / b = 0
    · refine ⟨v % b, acc, ?_, Nat.mod_lt _ (by omega), ?_⟩
      · have := Nat.div_add_mod v b
        rw [hq] at this
        omega
      · rw [hq]
        cases f <;> simp [digL]
    · have hv : v / b < 2 ^ f := by
        have h2 : v / b ≤ v / 2 := Nat.div_le_div_left hb.1 (by decide)
        rw [Nat.pow_succ] at h
        omega
      exact digL_head b hb f _ _ hq hv
/-- The digits of a number, as they are written. -/
def numT (b n : Nat) : List UInt8 := digL b 64 n []
theorem numT_zero (b : Nat) : numT b 0 = [] := rfl
theorem numT_val (b n : Nat) (hb : 2 ≤ b ∧ b ≤ 16) (hn : n < 18446744073709551616) : val b 0 (numT b n) = n := by
  unfold numT
  rw [val_dig b hb 64 n [] (by simpa using hn)]
  rfl
theorem numT_digs (b n : Nat) (hb : 2 ≤ b ∧ b ≤ 16) : Digs b (numT b n) := digs_digL b hb 64 n [] (by intro c hc; simp at hc)
theorem numT_head (b n : Nat) (hb : 2 ≤ b ∧ b ≤ 16) (hn : n < 18446744073709551616) (h0 : n ≠ 0) : ∃ d r, d ≠ 0 ∧ d < b ∧ numT b n = dig d :: r := digL_head b hb 64 n [] h0 (by simpa using hn)
/-- What is written. -/
def form10 (n : Nat) : List UInt8 := if n = 0 then [48] else numT 10 n
def form8 (n : Nat) : List UInt8 := 48 :: numT 8 n
def form16 (n : Nat) : List UInt8 := if n = 0 then [48, 120, 48] else 48 :: 88 :: numT 16 n
theorem last_mem (l : List UInt8) (h : ∀ c ∈ l, c ∉ ulC) : ∀ c, l.getLast? = some c → c ∉ ulC := fun c hc => h c (List.mem_of_getLast? hc)
theorem digs_out (b : Nat) (hb : b ≤ 16) (l : List UInt8) (h : Digs b l) : ∀ c ∈ l, c ∉ ulC ∧ numZ (c.toNat : Int) = true := fun c hc => by
  obtain ⟨d, hd, rfl⟩ := h c hc
  have := dig_of d (by omega)
  exact ⟨this.2.2.1, this.2.1⟩
/-- A text whose digits are l and whose letters are t. -/
theorem whole_of (l t : List UInt8) (ht : t.all (ulC.contains ·) = true) (hs : sufOk t = true) (hl : ∀ c ∈ l, c ∉ ulC) :
    wholeL (l ++ t) = if Lib.hasPrefix l [48, 120] = true then p16 (l.drop 2) else if Lib.hasPrefix l [48, 88] = true then p16 (l.drop 2) else if 1 < l.length ∧ l.getD 0 0 = 48 then p8 (l.drop 1) else p10 l := by
  have htr := trim_tail l t ht (last_mem l hl)
  unfold wholeL
  rw [htr]
  have : (l ++ t).drop l.length = t := by simp
  rw [this, if_neg (by rw [hs]; simp)]
theorem p16_num (n : Nat) (hn : n < 18446744073709551616) (h0 : n ≠ 0) : p16 (numT 16 n) = some n := by
  obtain ⟨d, r, _, _, hT⟩ := numT_head 16 n (by decide) hn h0
  unfold p16 puL M64
  rw [if_neg (by rw [hT]; simp)]
  rw [puB_val 16 1152921504606846976 18446744073709551615 (by decide) (by decide) (numT 16 n) 0 (numT_digs 16 n (by decide)) (by rw [numT_val 16 n (by decide) hn]; omega), numT_val 16 n (by decide) hn]
  rfl
theorem p8_num (n : Nat) (hn : n < 18446744073709551616) (h0 : n ≠ 0) : p8 (numT 8 n) = some n := by
  obtain ⟨d, r, _, _, hT⟩ := numT_head 8 n (by decide) hn h0
  unfold p8 puL M64
  rw [if_neg (by rw [hT]; simp)]
  rw [puB_val 8 2305843009213693952 18446744073709551615 (by decide) (by decide) (numT 8 n) 0 (numT_digs 8 n (by decide)) (by rw [numT_val 8 n (by decide) hn]; omega), numT_val 8 n (by decide) hn]
  rfl
theorem p10_num (n : Nat) (hn : n < 18446744073709551616) (h0 : n ≠ 0) : p10 (numT 10 n) = some n := by
  obtain ⟨d, r, _, _, hT⟩ := numT_head 10 n (by decide) hn h0
  unfold p10
  rw [if_neg (by rw [hT]; simp)]
  rw [pu10_val (numT 10 n) 0 (numT_digs 10 n (by decide)) (by rw [numT_val 10 n (by decide) hn]; omega), numT_val 10 n (by decide) hn]
  rfl
theorem p10_zero : p10 [48] = some 0 := by decide +kernel
theorem p16_zero : p16 [48] = some 0 := by decide +kernel
theorem hp2 (a b x y : UInt8) (r : List UInt8) : Lib.hasPrefix (x :: y :: r) [a, b] = (decide (a = x) && decide (b = y)) := by
  unfold Lib.hasPrefix
  simp only [List.isPrefixOf, Bool.and_true]
  rfl
theorem hp1 (a b x : UInt8) : Lib.hasPrefix [x] [a, b] = false := by
  unfold Lib.hasPrefix
  simp [List.isPrefixOf]
theorem whole10 (n k : Nat) (hn : n < 18446744073709551616) (hk : k < 7) : wholeL (form10 n ++ tailK k) = some n := by
  obtain ⟨t1, t2, t3, _⟩ := tail_ok ⟨k, hk⟩
  simp only at t1 t2 t3
  unfold form10
  by_cases h0 : n = 0
  · subst h0
    rw [if_pos rfl, whole_of _ _ t2 t1 (by intro c hc; simp at hc; subst hc; decide), hp1, hp1]
    simp [p10_zero]
  · rw [if_neg h0]
    have hd := digs_out 10 (by decide) _ (numT_digs 10 n (by decide))
    rw [whole_of _ _ t2 t1 (fun c hc => (hd c hc).1), p10_num n hn h0]
    obtain ⟨d, r, hd0, hdb, hT⟩ := numT_head 10 n (by decide) hn h0
    have h48 := (dig_of d (by omega)).2.2.2.2.2.1 hd0
    have e48 : ¬ (48 : UInt8) = dig d := fun e => h48 e.symm
    rw [hT]
    have hpf : ∀ y, Lib.hasPrefix (dig d :: r) [48, y] = false := fun y => by
      cases r with
      | nil => exact hp1 _ _ _
      | cons x r => rw [hp2]; simp [e48]
    rw [hpf, hpf, if_neg (by decide), if_neg (by decide), if_neg (fun e => h48 (by simpa using e.2))]
theorem whole8 (n k : Nat) (hn : n < 18446744073709551616) (hk : k < 7) : wholeL (form8 n ++ tailK k) = some n := by
  obtain ⟨t1, t2, t3, _⟩ := tail_ok ⟨k, hk⟩
  simp only at t1 t2 t3
  unfold form8
  have hd := digs_out 8 (by decide) _ (numT_digs 8 n (by decide))
  rw [whole_of _ _ t2 t1 (by intro c hc; rcases List.mem_cons.1 hc with rfl | hc; decide; exact (hd c hc).1)]
  by_cases h0 : n = 0
  · subst h0
    rw [numT_zero, hp1, hp1]
    simp [p10_zero]
  · have hp := p8_num n hn h0
    obtain ⟨d, r, hd0, hdb, hT⟩ := numT_head 8 n (by decide) hn h0
    have hx := (dig_of d (by omega)).2.2.2.2.2.2
    rw [hT] at hp ⊢
    rw [hp2, hp2]
    have e1 : ¬ (120 : UInt8) = dig d := fun e => hx.1 e.symm
    have e2 : ¬ (88 : UInt8) = dig d := fun e => hx.2 e.symm
    simp [e1, e2, hp]
theorem whole16 (n k : Nat) (hn : n < 18446744073709551616) (hk : k < 7) : wholeL (form16 n ++ tailK k) = some n := by
  obtain ⟨t1, t2, t3, _⟩ := tail_ok ⟨k, hk⟩
  simp only at t1 t2 t3
  unfold form16
  by_cases h0 : n = 0
  · subst h0
    rw [if_pos rfl, whole_of _ _ t2 t1 (by intro c hc; simp at hc; rcases hc with rfl | rfl | rfl <;> decide), hp2]
    simp [p16_zero]
  · rw [if_neg h0]
    have hd := digs_out 16 (by decide) _ (numT_digs 16 n (by decide))
    rw [whole_of _ _ t2 t1 (by intro c hc; rcases List.mem_cons.1 hc with rfl | hc; decide; rcases List.mem_cons.1 hc with rfl | hc; decide; exact (hd c hc).1), hp2, hp2]
    have hp := p16_num n hn h0
    simp [hp]
/-- The token of any of the forms. -/
theorem form_tok (s : ByteArray) (n k : Nat) (l : List UInt8) (hk : k < 7) (hs : s.data.toList = l ++ tailK k) (hw : wholeL (l ++ tailK k) = some n) (hl : ∀ c ∈ l, numZ (c.toNat : Int) = true) (h0 : ∃ c r, l = c :: r ∧ 48 ≤ c.toNat ∧ c.toNat ≤ 57) (hlen : l.length ≤ 66) :
    tokensF s = .ok [⟨3, 1, 1, s, n, ⟨#[]⟩⟩, endT 1 (1 + (s.size : Int))] := by
  obtain ⟨t1, t2, t3, t4⟩ := tail_ok ⟨k, hk⟩
  simp only at t1 t2 t3 t4
  obtain ⟨c, r, rfl, hc1, hc2⟩ := h0
  have hz : s.size = (c :: r ++ tailK k).length := by rw [size_list, hs]
  simp only [List.length_append, List.length_cons] at hz hlen
  refine one_number s n (by omega) (by omega) ?_ ?_ (by rw [hs]; exact hw)
  · rw [hs]
    intro x hx
    rcases List.mem_append.1 hx with hx | hx
    · exact hl x hx
    · exact List.all_eq_true.1 t3 x hx
  · rw [hs]
    simp only [List.cons_append, List.getD_cons_zero, digitZ, Bool.and_eq_true, decide_eq_true_eq]
    omega
end Go.Proofs.YtcmfmfgedhfaeaaGreatDoor
