/- Numbers as LexNumbers writes them, plainly. -/
import Derived.Test.YtcmfmfgedhfaeaaGreatDoorMe
namespace Go.Proofs.YtcmfmfgedhfaeaaGreatDoor
set_option linter.unusedSimpArgs false
set_option linter.unusedVariables false
open Go.RowKit

def HEXD : List UInt8 := [48, 49, 50, 51, 52, 53, 54, 55, 56, 57, 97, 98, 99, 100, 101, 102]
/-- A digit's letter. -/
def dig (d : Nat) : UInt8 := HEXD.getD d 0
theorem dig_fin : ∀ d : Fin 16, digV (dig d.val).toNat = d.val ∧ numZ ((dig d.val).toNat : Int) = true ∧ dig d.val ∉ ulC ∧ (dig d.val).toNat < 128 ∧ (d.val < 10 → 48 ≤ (dig d.val).toNat ∧ (dig d.val).toNat ≤ 57 ∧ (dig d.val).toNat - 48 = d.val) ∧ (d.val ≠ 0 → dig d.val ≠ 48) ∧ dig d.val ≠ 120 ∧ dig d.val ≠ 88 := by decide +kernel
theorem dig_of (d : Nat) (h : d < 16) : digV (dig d).toNat = d ∧ numZ ((dig d).toNat : Int) = true ∧ dig d ∉ ulC ∧ (dig d).toNat < 128 ∧ (d < 10 → 48 ≤ (dig d).toNat ∧ (dig d).toNat ≤ 57 ∧ (dig d).toNat - 48 = d) ∧ (d ≠ 0 → dig d ≠ 48) ∧ dig d ≠ 120 ∧ dig d ≠ 88 := dig_fin ⟨d, h⟩
/-- The digits of v ahead of others. -/
def digL (b : Nat) : Nat → Nat → List UInt8 → List UInt8
  | 0, _, acc => acc
  | f + 1, v, acc => if v = 0 then acc else digL b f (v / b) (dig (v % b) :: acc)
def val (b : Nat) : Nat → List UInt8 → Nat
  | acc, [] => acc
  | acc, c :: r => val b (acc * b + digV c.toNat) r
theorem val_dig (b : Nat) (hb : 2 ≤ b ∧ b ≤ 16) : ∀ f v acc, v < 2 ^ f → val b 0 (digL b f v acc) = val b v acc
  | 0, v, acc, h => by
    have : v = 0 := by simpa using h
    subst this
    rfl
  | f + 1, v, acc, h => by
    unfold digL
    split
    · rename_i h0
      rw [h0]
    · have hv : v / b < 2 ^ f := by
        have h2 : v / b ≤ v / 2 := Nat.div_le_div_left hb.1 (by decide)
        rw [Nat.pow_succ] at h
        omega
      rw [val_dig b hb f _ _ hv]
      have hm : v % b < b := Nat.mod_lt _ (by omega)
      have hdv := (dig_of (v % b) (by omega)).1
      simp only [val, hdv]
      have := Nat.div_add_mod v b
      rw [Nat.mul_comm] at this
      rw [this]
/-- All letters are digits below b. -/
def Digs (b : Nat) (l : List UInt8) : Prop := ∀ c ∈ l, ∃ d, d < b ∧ c = dig d
theorem digs_digL (b : Nat) (hb : 2 ≤ b ∧ b ≤ 16) : ∀ f v acc, Digs b acc → Digs b (digL b f v acc)
  | 0, v, acc, h => h
  | f + 1, v, acc, h => by
    unfold digL
    split
    · exact h
    · refine digs_digL b hb f _ _ ?_
      intro c hc
      rcases List.mem_cons.1 hc with rfl | hc
      · exact ⟨v % b, Nat.mod_lt _ (by omega), rfl⟩
      · exact h c hc
theorem val_ge (b : Nat) (hb : 2 ≤ b) : ∀ (l : List UInt8) acc, acc ≤ val b acc l
  | [], acc => Nat.le_refl _
  | c :: r, acc => by
    have := val_ge b hb r (acc * b + digV c.toNat)
    have h2 : acc ≤ acc * b := Nat.le_mul_of_pos_right _ (by omega)
    simp only [val]
    omega
theorem puB_val (b cut M : Nat) (hb : 2 ≤ b ∧ b ≤ 16) (hc : M < cut * b) : ∀ (l : List UInt8) acc, Digs b l → val b acc l ≤ M → puB b cut M acc l = .ok (val b acc l)
  | [], acc, hd, hv => rfl
  | c :: r, acc, hd, hv => by
    obtain ⟨d, hdb, hcd⟩ := hd c (by simp)
    have hdv := (dig_of d (by omega)).1
    rw [← hcd] at hdv
    simp only [val] at hv ⊢
    have hge := val_ge b hb.1 r (acc * b + digV c.toNat)
    simp only [puB]
    rw [if_neg (by omega)]
    have h1 : ¬ cut ≤ acc := fun h => by
      have := Nat.mul_le_mul_right b h
      omega
    rw [if_neg h1, if_neg (by omega)]
    exact puB_val b cut M hb hc r _ (fun x hx => hd x (by simp [hx])) hv
theorem pu10_val : ∀ (l : List UInt8) acc, Digs 10 l → val 10 acc l ≤ 18446744073709551615 → Lib.parseUint10 acc l = .ok (val 10 acc l)
  | [], acc, hd, hv => rfl
  | c :: r, acc, hd, hv => by
    obtain ⟨d, hdb, hcd⟩ := hd c (by simp)
    obtain ⟨hdv, _, _, _, h10, _⟩ := dig_of d (by omega)
    rw [← hcd] at hdv h10
    simp only [val] at hv ⊢
    have hge := val_ge 10 (by decide) r (acc * 10 + digV c.toNat)
    obtain ⟨k1, k2, k3⟩ := h10 hdb
    rw [hdv] at hv hge ⊢
    unfold Lib.parseUint10
    rw [if_pos ⟨k1, k2⟩, if_neg (by omega), k3, if_neg (by omega)]
    exact pu10_val r _ (fun x hx => hd x (by simp [hx])) hv
/-- The tails. -/
def tailK (k : Nat) : List UInt8 := ([[], [117], [76], [117, 76], [108, 85], [85], [108]] : List (List UInt8)).getD k []
theorem tail_ok : ∀ k : Fin 7, sufOk (tailK k.val) = true ∧ (tailK k.val).all (ulC.contains ·) = true ∧ (tailK k.val).all (fun c => numZ (c.toNat : Int)) = true ∧ (tailK k.val).length ≤ 2 := by decide +kernel
theorem trim_tail (l t : List UInt8) (ht : t.all (ulC.contains ·) = true) (hl : ∀ c, l.getLast? = some c → c ∉ ulC) : Lib.trimRightS (l ++ t) ulC = l := by
  unfold Lib.trimRightS
  rw [List.reverse_append, List.dropWhile_append_of_pos (by
    intro a ha
    have := List.all_eq_true.1 ht a (List.mem_reverse.1 ha)
    exact this)]
  have : l.reverse.dropWhile (ulC.contains ·) = l.reverse := by
    cases h : l.reverse with
    | nil => rfl
    | cons a r =>
      have hla : l.getLast? = some a := by
        have : l = r.reverse ++ [a] := by
          have := congrArg List.reverse h
          simpa using this
        rw [this]
        simp
      have hn := hl a hla
      rw [List.dropWhile_cons_of_neg]
      simpa using hn
  rw [this, List.reverse_reverse]
end Go.Proofs.YtcmfmfgedhfaeaaGreatDoor
