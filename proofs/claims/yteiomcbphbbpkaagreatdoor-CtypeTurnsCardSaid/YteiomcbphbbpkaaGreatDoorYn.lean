/- Doubles as exact numbers: how two words stand to each other, and what is left of one that is cut towards zero. -/
import Derived.Laws.FloatArith
import Derived.RowKit
namespace Go.Proofs.YteiomcbphbbpkaaGreatDoor.mach
set_option linter.unusedSimpArgs false
set_option linter.unusedVariables false
open Ieee

def bigP : Nat := 2 ^ 1074
theorem bigP_pos : 0 < bigP := by rw [bigP]; exact Nat.two_pow_pos 1074
/-- The magnitude of a number in units of the least place. -/
def units (m : Nat) (e : Int) : Nat := m * 2 ^ (e + 1074).toNat
def sg (s : Bool) (n : Nat) : Int := if s then -(n : Int) else (n : Int)

theorem signed_eq (s : Bool) (m k : Nat) : Ieee.signed s m k = sg s (m * 2 ^ k) := by
  unfold Ieee.signed sg
  rw [Nat.shiftLeft_eq]

theorem read_cases (x : Nat) : (∃ s t, double.read x = .nan s t) ∨ (∃ s, double.read x = .infinity s) ∨ (∃ s m e, double.read x = .number s m e ∧ m < 2 ^ 53 ∧ -1074 ≤ e ∧ e ≤ 971) := by
  have w1 : double.signWeight = 9223372036854775808 := by decide
  have w2 : double.binade = 4503599627370496 := by decide
  have w3 : double.infRung = 9218868437227405312 := by decide
  have w4 : double.leastPlace = -1074 := by decide
  unfold Format.read
  rw [w1, w2, w3, w4]
  dsimp only
  have hr : x % 9223372036854775808 < 9223372036854775808 := Nat.mod_lt _ (by decide)
  generalize x % 9223372036854775808 = r at *
  by_cases h1 : r < 4503599627370496
  · rw [if_pos h1]
    exact Or.inr (Or.inr ⟨_, _, _, rfl, by omega, by omega, by omega⟩)
  · rw [if_neg h1]
    by_cases h2 : r < 9218868437227405312
    · rw [if_pos h2]
      exact Or.inr (Or.inr ⟨_, _, _, rfl, by omega, by omega, by omega⟩)
    · rw [if_neg h2]
      by_cases h3 : r = 9218868437227405312
      · rw [if_pos h3]; exact Or.inr (Or.inl ⟨_, rfl⟩)
      · rw [if_neg h3]; exact Or.inl ⟨_, _, rfl⟩

theorem compare_scale (a b : Int) (c : Nat) (hc : 0 < c) : compare (a * c) (b * c) = compare a b := by
  have hc' : (0 : Int) < c := by omega
  have h1 : a * c < b * c ↔ a < b := Int.mul_lt_mul_right hc'
  have h2 : a * c = b * c ↔ a = b := ⟨fun h => Int.eq_of_mul_eq_mul_right (by omega) h, fun h => by rw [h]⟩
  simp only [compare, compareOfLessAndEq, h1, h2]

theorem sg_mul (s : Bool) (n c : Nat) : sg s n * (c : Int) = sg s (n * c) := by
  cases s <;> simp [sg, Int.neg_mul]

theorem order_num {x y m m' : Nat} {s s' : Bool} {e e' : Int} (hx : double.read x = .number s m e) (hy : double.read y = .number s' m' e') (he : -1074 ≤ e) (he' : -1074 ≤ e') :
    double.order x y = some (compare (sg s (units m e)) (sg s' (units m' e'))) := by
  unfold Format.order
  rw [hx, hy]
  simp only [Datum.order, signed_eq]
  congr 1
  have key := compare_scale (sg s (m * 2 ^ (e - min e e').toNat)) (sg s' (m' * 2 ^ (e' - min e e').toNat)) (2 ^ (min e e' + 1074).toNat) (Nat.two_pow_pos _)
  rw [sg_mul, sg_mul, Nat.mul_assoc, Nat.mul_assoc, ← Nat.pow_add, ← Nat.pow_add] at key
  rw [← key]
  unfold units
  have a1 : (e - min e e').toNat + (min e e' + 1074).toNat = (e + 1074).toNat := by omega
  have a2 : (e' - min e e').toNat + (min e e' + 1074).toNat = (e' + 1074).toNat := by omega
  rw [a1, a2]

theorem cut_zero (s : Bool) (n d : Nat) : Toward.zero.cut s n d = n / 2 ^ d := by
  unfold Toward.cut
  simp only [Nat.shiftLeft_eq, Nat.one_mul, Bool.toNat_false, Nat.add_zero]
  by_cases h : d ≤ n.log2 + 2
  · rw [Nat.min_eq_left h]
  · have h' : n.log2 + 2 ≤ d := by omega
    rw [Nat.min_eq_right h']
    have l1 : n < 2 ^ (n.log2 + 1) := Nat.lt_log2_self
    have l2 : n < 2 ^ (n.log2 + 2) := Nat.lt_of_lt_of_le l1 (Nat.pow_le_pow_right (by decide) (by omega))
    have l3 : n < 2 ^ d := Nat.lt_of_lt_of_le l2 (Nat.pow_le_pow_right (by decide) h')
    rw [Nat.div_eq_of_lt l2, Nat.div_eq_of_lt l3]

/-- Cut towards zero: the whole number of units' worth. -/
theorem cut_units (s : Bool) (m : Nat) (e : Int) (he : -1074 ≤ e) : Toward.zero.cut s (m <<< e.toNat) (-e).toNat = units m e / bigP := by
  rw [cut_zero, Nat.shiftLeft_eq]
  unfold units bigP
  by_cases h : 0 ≤ e
  · have h1 : (-e).toNat = 0 := by omega
    have h2 : (e + 1074).toNat = e.toNat + 1074 := by omega
    rw [h1, h2, Nat.pow_add, ← Nat.mul_assoc, Nat.mul_div_cancel _ (Nat.two_pow_pos 1074), Nat.pow_zero, Nat.div_one]
  · have h1 : e.toNat = 0 := by omega
    have h2 : 1074 = (e + 1074).toNat + (-e).toNat := by omega
    rw [h1, Nat.pow_zero, Nat.mul_one]
    conv => rhs; rw [h2]
    rw [Nat.pow_add, ← Nat.div_div_eq_div_mul, Nat.mul_div_cancel _ (Nat.two_pow_pos _)]

theorem integral_zero (s : Bool) (m : Nat) (e : Int) (he : -1074 ≤ e) : (Datum.number s m e).integral .zero = .number s (units m e / bigP) 0 := by
  simp only [Datum.integral, cut_units s m e he]
theorem toInt_zero (s : Bool) (m : Nat) (e : Int) (he : -1074 ≤ e) : (Datum.number s m e).toInt .zero = some (sg s (units m e / bigP)) := by
  unfold Datum.toInt
  rw [integral_zero s m e he]
  simp [signed_eq]

theorem word_parts (s : Bool) (r : Nat) (h : r < 9223372036854775808) : (double.word s r / double.signWeight % 2 == 1) = s ∧ double.word s r % double.signWeight = r := by
  have w1 : double.signWeight = 9223372036854775808 := by decide
  unfold Format.word
  rw [w1]
  cases s
  · refine ⟨?_, ?_⟩
    · have : r / 9223372036854775808 % 2 = 0 := by omega
      rw [if_neg (by decide), this]
      rfl
    · rw [if_neg (by decide)]; omega
  · refine ⟨?_, ?_⟩
    · have : (9223372036854775808 + r) / 9223372036854775808 % 2 = 1 := by omega
      rw [if_pos rfl, this]
      rfl
    · rw [if_pos rfl]; omega

/-- A rung of the normal numbers is read back. -/
theorem read_rung (s : Bool) (L kept : Nat) (hL : L ≤ 1023) (h1 : 4503599627370496 ≤ kept) (h2 : kept < 9007199254740992) :
    double.read (double.word s ((L + 1022) * 4503599627370496 + kept)) = .number s kept ((L : Int) - 52) := by
  have w2 : double.binade = 4503599627370496 := by decide
  have w3 : double.infRung = 9218868437227405312 := by decide
  have w4 : double.leastPlace = -1074 := by decide
  obtain ⟨p1, p2⟩ := word_parts s ((L + 1022) * 4503599627370496 + kept) (by omega)
  unfold Format.read
  rw [p1, p2, w2, w3, w4]
  dsimp only
  rw [if_neg (by omega), if_pos (by omega)]
  have e1 : 4503599627370496 + ((L + 1022) * 4503599627370496 + kept) % 4503599627370496 = kept := by omega
  have e2 : ((L + 1022) * 4503599627370496 + kept) / 4503599627370496 = L + 1023 := by omega
  rw [e1, e2, show (-1074 : Int) + ((L + 1023 - 1 : Nat) : Int) = (L : Int) - 52 by omega]

theorem even_cut (s : Bool) (n d : Nat) (hd : d ≤ n.log2 + 2) (h : n % 2 ^ d = 0) : Toward.even.cut s n d = n / 2 ^ d := by
  unfold Toward.cut
  simp only [Nat.shiftLeft_eq, Nat.one_mul, Nat.min_eq_left hd, h, Nat.mul_zero]
  have hp : 0 < 2 ^ d := Nat.two_pow_pos d
  have h0 : (2 ^ d == 0) = false := by simp
  simp [h0]

/-- A whole number that a double has is written and read back as it was. -/
theorem write_whole (s : Bool) (k : Nat) (hk : k.log2 ≤ 1023) (hd : k % 2 ^ (k.log2 - 52) = 0) :
    ∃ m e, double.read (double.write (.number s k 0)) = .number s m e ∧ -1074 ≤ e ∧ units m e = k * bigP := by
  have w2 : double.binade = 4503599627370496 := by decide
  have w3 : double.infRung = 9218868437227405312 := by decide
  have w4 : double.leastPlace = -1074 := by decide
  have w5 : double.fractionBits = 52 := rfl
  unfold Format.write Format.nearest
  by_cases h0 : k = 0
  · subst h0
    dsimp only
    rw [if_pos rfl]
    obtain ⟨p1, p2⟩ := word_parts s 0 (by omega)
    refine ⟨0, -1074, ?_, by omega, by simp [units]⟩
    unfold Format.read
    rw [p1, p2, w2, w4]
    rfl
  · dsimp only
    rw [if_neg h0, w2, w3, w4, w5]
    have hlo : 2 ^ k.log2 ≤ k := Nat.log2_self_le h0
    have hhi : k < 2 ^ (k.log2 + 1) := Nat.lt_log2_self
    generalize hL : k.log2 = L at *
    have hlast : max ((0 : Int) + (L : Int) - ((52 : Nat) : Int)) (-1074) = (L : Int) - 52 := by omega
    rw [hlast]
    have hr : ((L : Int) - 52 - -1074).toNat = L + 1022 := by omega
    rw [hr]
    by_cases hc : L ≤ 52
    · have e1 : ((0 : Int) - ((L : Int) - 52)).toNat = 52 - L := by omega
      have e2 : ((L : Int) - 52 - 0).toNat = 0 := by omega
      rw [e1, e2, Nat.shiftLeft_eq]
      rw [even_cut s _ 0 (by omega) (by rw [Nat.pow_zero]; exact Nat.mod_one _), Nat.pow_zero, Nat.div_one]
      have b1 : 4503599627370496 ≤ k * 2 ^ (52 - L) := by
        have : 2 ^ L * 2 ^ (52 - L) ≤ k * 2 ^ (52 - L) := Nat.mul_le_mul_right _ hlo
        rw [← Nat.pow_add, show L + (52 - L) = 52 by omega] at this
        exact this
      have b2 : k * 2 ^ (52 - L) < 9007199254740992 := by
        have : k * 2 ^ (52 - L) < 2 ^ (L + 1) * 2 ^ (52 - L) := Nat.mul_lt_mul_of_pos_right hhi (Nat.two_pow_pos _)
        rw [← Nat.pow_add, show L + 1 + (52 - L) = 53 by omega] at this
        exact this
      rw [Nat.min_eq_left (by omega), read_rung s L _ hk b1 b2]
      refine ⟨_, _, rfl, by omega, ?_⟩
      unfold units bigP
      rw [Nat.mul_assoc, ← Nat.pow_add]
      congr 2
      omega
    · have e1 : ((0 : Int) - ((L : Int) - 52)).toNat = 0 := by omega
      have e2 : ((L : Int) - 52 - 0).toNat = L - 52 := by omega
      rw [e1, e2, Nat.shiftLeft_zero]
      rw [even_cut s _ (L - 52) (by omega) hd]
      have hdiv : k = k / 2 ^ (L - 52) * 2 ^ (L - 52) := by
        have := Nat.div_add_mod k (2 ^ (L - 52))
        rw [hd, Nat.add_zero, Nat.mul_comm] at this
        exact this.symm
      have hp : 0 < 2 ^ (L - 52) := Nat.two_pow_pos _
      generalize hq : k / 2 ^ (L - 52) = q at *
      have b1 : 4503599627370496 ≤ q := by
        have h1 : 2 ^ 52 * 2 ^ (L - 52) ≤ q * 2 ^ (L - 52) := by
          rw [← hdiv, ← Nat.pow_add, show 52 + (L - 52) = L by omega]; exact hlo
        exact Nat.le_of_mul_le_mul_right h1 hp
      have b2 : q < 9007199254740992 := by
        have h1 : q * 2 ^ (L - 52) < 2 ^ 53 * 2 ^ (L - 52) := by
          rw [← hdiv, ← Nat.pow_add, show 53 + (L - 52) = L + 1 by omega]; exact hhi
        exact Nat.lt_of_mul_lt_mul_right h1
      rw [Nat.min_eq_left (by omega), read_rung s L _ hk b1 b2]
      refine ⟨_, _, rfl, by omega, ?_⟩
      unfold units bigP
      rw [show ((L : Int) - 52 + 1074).toNat = (L - 52) + 1074 by omega, Nat.pow_add, ← Nat.mul_assoc, ← hdiv]
end Go.Proofs.YteiomcbphbbpkaaGreatDoor.mach
