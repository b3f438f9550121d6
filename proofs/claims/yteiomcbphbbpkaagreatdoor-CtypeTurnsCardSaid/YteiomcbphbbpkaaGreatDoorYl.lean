/- Doubles within bounds, as whole numbers cut towards zero. -/
import Derived.Test.YteiomcbphbbpkaaGreatDoorYn
namespace Go.Proofs.YteiomcbphbbpkaaGreatDoor.mach
set_option linter.unusedSimpArgs false
set_option linter.unusedVariables false
open Ieee Go.RowKit
attribute [local irreducible] units bigP

/-- The whole number that is left of a number cut towards zero. -/
def whole0 (s : Bool) (m : Nat) (e : Int) : Int := sg s (units m e / bigP)
theorem units_pos {m : Nat} {e : Int} (h : 0 ≤ e) : units m e / bigP = m * 2 ^ e.toNat := by
  unfold units bigP
  rw [show (e + 1074).toNat = e.toNat + 1074 by omega, Nat.pow_add, ← Nat.mul_assoc, Nat.mul_div_cancel _ (Nat.two_pow_pos 1074)]
theorem units_small {m : Nat} {e : Int} (h : e < 0) (he : -1074 ≤ e) : units m e / bigP ≤ m := by
  refine Nat.div_le_of_le_mul ?_
  have hb : bigP = 2 ^ (e + 1074).toNat * 2 ^ (-e).toNat := by rw [bigP, ← Nat.pow_add, show (e + 1074).toNat + (-e).toNat = 1074 by omega]
  have hp : 2 ^ (e + 1074).toNat ≤ bigP := by
    rw [hb]
    exact Nat.le_mul_of_pos_right _ (Nat.two_pow_pos _)
  rw [units, Nat.mul_comm]
  exact Nat.mul_le_mul_right m hp
theorem log2_lt_of {n k : Nat} (h : n < 2 ^ (k + 1)) : n.log2 ≤ k := by
  by_cases h0 : n = 0
  · subst h0; simp
  · have := (Nat.log2_lt h0).2 h; omega
theorem whole_has (m : Nat) (e : Int) (hm : m < 2 ^ 53) (he : -1074 ≤ e) (he' : e ≤ 971) :
    (units m e / bigP).log2 ≤ 1023 ∧ (units m e / bigP) % 2 ^ ((units m e / bigP).log2 - 52) = 0 := by
  by_cases h : 0 ≤ e
  · rw [units_pos h]
    have hlt : m * 2 ^ e.toNat < 2 ^ (52 + e.toNat + 1) := by
      rw [show 52 + e.toNat + 1 = 53 + e.toNat by omega, Nat.pow_add]
      exact Nat.mul_lt_mul_of_pos_right hm (Nat.two_pow_pos _)
    have hl := log2_lt_of hlt
    refine ⟨by omega, ?_⟩
    have hd : 2 ^ ((m * 2 ^ e.toNat).log2 - 52) ∣ m * 2 ^ e.toNat :=
      Nat.dvd_trans (Nat.pow_dvd_pow 2 (by omega)) (Nat.dvd_mul_left _ _)
    exact Nat.mod_eq_zero_of_dvd hd
  · have h1 := units_small (m := m) (show e < 0 by omega) he
    have hl : (units m e / bigP).log2 ≤ 52 := log2_lt_of (Nat.lt_of_le_of_lt h1 hm)
    refine ⟨by omega, ?_⟩
    rw [show (units m e / bigP).log2 - 52 = 0 by omega, Nat.pow_zero]
    exact Nat.mod_one _
/-- Between two neighbours there is no double. -/
theorem whole_gap (m : Nat) (e : Int) (hm : m < 2 ^ 53) (he : -1074 ≤ e) (h : units m e / bigP < 9223372036854777856) : units m e / bigP ≤ 9223372036854775808 := by
  by_cases h11 : 11 ≤ e
  · rw [units_pos (by omega)] at *
    have e1 : m * 2 ^ e.toNat = (m * 2 ^ (e.toNat - 11)) * 2048 := by
      rw [Nat.mul_assoc, show (2048 : Nat) = 2 ^ 11 by decide, ← Nat.pow_add, show e.toNat - 11 + 11 = e.toNat by omega]
    omega
  · by_cases h0 : 0 ≤ e
    · rw [units_pos h0] at *
      have h1 : m * 2 ^ e.toNat ≤ m * 2 ^ 10 := Nat.mul_le_mul_left _ (Nat.pow_le_pow_right (by decide) (by omega))
      omega
    · have h1 := units_small (m := m) (show e < 0 by omega) he
      omega

theorem cmp_lt (a b : Int) : (some (compare a b) == some Ordering.lt) = decide (a < b) := by
  by_cases h : a < b
  · simp [compare, compareOfLessAndEq, h]
  · by_cases h2 : a = b <;> simp [compare, compareOfLessAndEq, h, h2]
theorem cmp_gt (a b : Int) : (some (compare a b) == some Ordering.gt) = decide (b < a) := by
  by_cases h : a < b
  · have : ¬ b < a := by omega
    simp [compare, compareOfLessAndEq, h, this]
  · by_cases h2 : a = b
    · simp [compare, compareOfLessAndEq, h, h2]
    · have : b < a := by omega
      simp [compare, compareOfLessAndEq, h, h2, this]
theorem cmp_eq (a b : Int) : (some (compare a b) == some Ordering.eq) = decide (a = b) := by
  by_cases h : a < b
  · have : ¬ a = b := by omega
    simp [compare, compareOfLessAndEq, h, this]
  · by_cases h2 : a = b <;> simp [compare, compareOfLessAndEq, h, h2]
theorem cmp_ge (a b : Int) : (some (compare a b) == some Ordering.gt || some (compare a b) == some Ordering.eq) = decide (b ≤ a) := by
  rw [cmp_gt, cmp_eq, Bool.eq_iff_iff]
  simp only [Bool.or_eq_true, decide_eq_true_eq]
  omega

theorem sg_false (n : Nat) : sg false n = (n : Int) := rfl
theorem sg_true (n : Nat) : sg true n = -(n : Int) := rfl
theorem sg_lt_pos {s : Bool} {U B : Nat} (hB : 0 < B) : sg s U < sg false (B * bigP) ↔ sg s (U / bigP) < (B : Int) := by
  have hk : U / bigP < B ↔ U < B * bigP := Nat.div_lt_iff_lt_mul bigP_pos
  have hpos : 0 < B * bigP := Nat.mul_pos hB bigP_pos
  generalize U / bigP = q at *
  generalize B * bigP = c at *
  cases s
  · rw [sg_false, sg_false, sg_false]; constructor <;> intro h
    · have := hk.2 (by omega); omega
    · have := hk.1 (by omega); omega
  · rw [sg_true, sg_false, sg_true]; constructor <;> intro h <;> omega
theorem sg_gt_neg {s : Bool} {U B : Nat} (hB : 0 < B) : sg true (B * bigP) < sg s U ↔ -(B : Int) < sg s (U / bigP) := by
  have hk : U / bigP < B ↔ U < B * bigP := Nat.div_lt_iff_lt_mul bigP_pos
  have hpos : 0 < B * bigP := Nat.mul_pos hB bigP_pos
  generalize U / bigP = q at *
  generalize B * bigP = c at *
  cases s
  · rw [sg_false, sg_true, sg_false]; constructor <;> intro h <;> omega
  · rw [sg_true, sg_true, sg_true]; constructor <;> intro h
    · have := hk.2 (by omega); omega
    · have := hk.1 (by omega); omega
theorem sg_ge_neg {s : Bool} {U B : Nat} (h : sg true (B * bigP) ≤ sg s U) : -(B : Int) ≤ sg s (U / bigP) := by
  cases s
  · rw [sg_false]; generalize U / bigP = q at *; omega
  · rw [sg_true, sg_true] at h
    have h3 : U / bigP ≤ B := Nat.div_le_of_le_mul (by rw [Nat.mul_comm]; generalize B * bigP = c at *; omega)
    rw [sg_true]
    generalize U / bigP = q at *
    omega
theorem sg_ge_zero {s : Bool} {U : Nat} (h : sg false 0 ≤ sg s U) : 0 ≤ sg s (U / bigP) := by
  cases s
  · rw [sg_false]; generalize U / bigP = q at *; omega
  · rw [sg_true, sg_false] at h
    have : U = 0 := by omega
    subst this
    rw [Nat.zero_div]
    decide

/-- The order of two numbers, by their units. -/
def toI (t : Nat) : Int := ((FloatKind.f64.decode t).toInt .zero).getD 0
def winL (t low hi : Nat) : Bool := (FloatKind.f64.format.order t low == some .gt || FloatKind.f64.format.order t low == some .eq) && FloatKind.f64.format.order t hi == some .lt
theorem units_neg (B j : Nat) (hj : j ≤ 1074) : units (B * 2 ^ j) (-(j : Int)) = B * bigP := by
  rw [units, bigP, Nat.mul_assoc, ← Nat.pow_add, show j + (-(j : Int) + 1074).toNat = 1074 by omega]
theorem units_nonneg (m j : Nat) : units m (j : Int) = m * 2 ^ j * bigP := by
  rw [units, bigP, show ((j : Int) + 1074).toNat = j + 1074 by omega, Nat.pow_add, Nat.mul_assoc]

theorem win_range {t low hi ml mh : Nat} {sl sh : Bool} {el eh : Int} (rl : double.read low = .number sl ml el) (rh : double.read hi = .number sh mh eh) (hel : -1074 ≤ el) (heh : -1074 ≤ eh) (h : winL t low hi = true) :
    ∃ s m e, double.read t = .number s m e ∧ m < 2 ^ 53 ∧ -1074 ≤ e ∧ e ≤ 971 ∧ sg sl (units ml el) ≤ sg s (units m e) ∧ sg s (units m e) < sg sh (units mh eh) := by
  have hf : FloatKind.f64.format = double := rfl
  unfold winL at h
  rw [hf, Bool.and_eq_true] at h
  obtain ⟨h1, h2⟩ := h
  rcases read_cases t with ⟨s, u, hr⟩ | ⟨s, hr⟩ | ⟨s, m, e, hr, hm, he, he'⟩
  · rw [Format.order, hr] at h2
    simp [Datum.order] at h2
  · rw [Format.order, hr, rl] at h1
    rw [Format.order, hr, rh] at h2
    cases s <;> simp [Datum.order] at h1 h2
  · rw [order_num hr rl he hel, cmp_ge] at h1
    rw [order_num hr rh he heh, cmp_lt] at h2
    exact ⟨s, m, e, hr, hm, he, he', by simpa using h1, by simpa using h2⟩
theorem toI_number {t m : Nat} {s : Bool} {e : Int} (hr : double.read t = .number s m e) (he : -1074 ≤ e) : (FloatKind.f64.decode t).toInt .zero = some (sg s (units m e / bigP)) := by
  have : FloatKind.f64.decode t = .number s m e := hr
  rw [this, toInt_zero s m e he]
/-- The four windows. -/
theorem win_signed {t low hi B j : Nat} {el : Int} (hB : 0 < B) (rl : double.read low = .number true B el) (rh : double.read hi = .number false B el) (hel : -1074 ≤ el) (hu : units B el = j * bigP) (hj : 0 < j) (h : winL t low hi = true) :
    (FloatKind.f64.decode t).toInt .zero = some (toI t) ∧ -(j : Int) ≤ toI t ∧ toI t < j := by
  obtain ⟨s, m, e, hr, hm, he, he', g1, g2⟩ := win_range rl rh hel hel h
  have ht := toI_number hr he
  have hi' : toI t = sg s (units m e / bigP) := by unfold toI; rw [ht]; rfl
  rw [hu] at g1 g2
  exact ⟨by rw [ht, hi'], by rw [hi']; exact sg_ge_neg g1, by rw [hi']; exact (sg_lt_pos hj).1 g2⟩
theorem win_unsigned {t low hi B j : Nat} {el eh : Int} (rl : double.read low = .number false 0 el) (rh : double.read hi = .number false B eh) (hel : -1074 ≤ el) (heh : -1074 ≤ eh) (hu : units B eh = j * bigP) (hj : 0 < j) (h : winL t low hi = true) :
    (FloatKind.f64.decode t).toInt .zero = some (toI t) ∧ 0 ≤ toI t ∧ toI t < j := by
  obtain ⟨s, m, e, hr, hm, he, he', g1, g2⟩ := win_range rl rh hel heh h
  have ht := toI_number hr he
  have hi' : toI t = sg s (units m e / bigP) := by unfold toI; rw [ht]; rfl
  rw [hu] at g2
  have z : units 0 el = 0 := by simp [units]
  rw [z] at g1
  exact ⟨by rw [ht, hi'], by rw [hi']; exact sg_ge_zero g1, by rw [hi']; exact (sg_lt_pos hj).1 g2⟩
theorem u31 : units 4503599627370496 (-21) = 2147483648 * bigP := by
  have h := units_neg 2147483648 21 (by decide)
  rw [show (2147483648 * 2 ^ 21 : Nat) = 4503599627370496 by decide, show (-((21 : Nat) : Int)) = -21 by decide] at h
  exact h
theorem u32 : units 4503599627370496 (-20) = 4294967296 * bigP := by
  have h := units_neg 4294967296 20 (by decide)
  rw [show (4294967296 * 2 ^ 20 : Nat) = 4503599627370496 by decide, show (-((20 : Nat) : Int)) = -20 by decide] at h
  exact h
theorem u63 : units 4503599627370496 11 = 9223372036854775808 * bigP := by
  have h := units_nonneg 4503599627370496 11
  rw [show (4503599627370496 * 2 ^ 11 : Nat) = 9223372036854775808 by decide, show ((11 : Nat) : Int) = 11 by decide] at h
  exact h
theorem u64 : units 4503599627370496 12 = 18446744073709551616 * bigP := by
  have h := units_nonneg 4503599627370496 12
  rw [show (4503599627370496 * 2 ^ 12 : Nat) = 18446744073709551616 by decide, show ((12 : Nat) : Int) = 12 by decide] at h
  exact h
theorem win31 {t : Nat} (h : winL t 13970166044103278592 4746794007248502784 = true) : floatToIntVal .f64 t .i32 = some (toI t) ∧ -2147483648 ≤ toI t ∧ toI t < 2147483648 := by
  obtain ⟨a, b, c⟩ := win_signed (B := 4503599627370496) (j := 2147483648) (el := -21) (by decide) (by decide) (by decide) (by decide) u31 (by decide) h
  refine ⟨?_, by omega, by omega⟩
  unfold floatToIntVal
  rw [a]
  simp only [IntKind.min, IntKind.max, IntKind.signed, IntKind.bits]
  exact if_pos (by constructor <;> simp <;> omega)
theorem win32 {t : Nat} (h : winL t 0 4751297606875873280 = true) : floatToIntVal .f64 t .u32 = some (toI t) ∧ 0 ≤ toI t ∧ toI t < 4294967296 := by
  obtain ⟨a, b, c⟩ := win_unsigned (B := 4503599627370496) (j := 4294967296) (el := -1074) (eh := -20) (by decide) (by decide) (by decide) (by decide) u32 (by decide) h
  refine ⟨?_, by omega, by omega⟩
  unfold floatToIntVal
  rw [a]
  simp only [IntKind.min, IntKind.max, IntKind.signed, IntKind.bits]
  exact if_pos (by constructor <;> simp <;> omega)
theorem win63 {t : Nat} (h : winL t 14114281232179134464 4890909195324358656 = true) : floatToIntVal .f64 t .i64 = some (toI t) ∧ -9223372036854775808 ≤ toI t ∧ toI t < 9223372036854775808 := by
  obtain ⟨a, b, c⟩ := win_signed (B := 4503599627370496) (j := 9223372036854775808) (el := 11) (by decide) (by decide) (by decide) (by decide) u63 (by decide) h
  refine ⟨?_, by omega, by omega⟩
  unfold floatToIntVal
  rw [a]
  simp only [IntKind.min, IntKind.max, IntKind.signed, IntKind.bits]
  exact if_pos (by constructor <;> simp <;> omega)
theorem win64 {t : Nat} (h : winL t 0 4895412794951729152 = true) : floatToIntVal .f64 t .u64 = some (toI t) ∧ 0 ≤ toI t ∧ toI t < 18446744073709551616 := by
  obtain ⟨a, b, c⟩ := win_unsigned (B := 4503599627370496) (j := 18446744073709551616) (el := -1074) (eh := 12) (by decide) (by decide) (by decide) (by decide) u64 (by decide) h
  refine ⟨?_, by omega, by omega⟩
  unfold floatToIntVal
  rw [a]
  simp only [IntKind.min, IntKind.max, IntKind.signed, IntKind.bits]
  exact if_pos (by constructor <;> simp <;> omega)
end Go.Proofs.YteiomcbphbbpkaaGreatDoor.mach
