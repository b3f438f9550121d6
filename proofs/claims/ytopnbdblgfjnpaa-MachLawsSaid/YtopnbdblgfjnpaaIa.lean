/- A double is not zero just where some bit but its sign's is set. -/
import Derived.Test.YtopnbdblgfjnpaaI
import Derived.WalkKit
namespace Go.Proofs.Ytopnbdblgfjnpaa
set_option linter.unusedSimpArgs false
set_option linter.unusedVariables false
open Ieee Go.RowKit
attribute [local irreducible] units bigP

theorem read_zero_iff (x : Nat) : (∃ s e, double.read x = .number s 0 e ∧ -1074 ≤ e) ↔ x % 9223372036854775808 = 0 := by
  have w1 : double.signWeight = 9223372036854775808 := by decide
  have w2 : double.binade = 4503599627370496 := by decide
  have w3 : double.infRung = 9218868437227405312 := by decide
  have w4 : double.leastPlace = -1074 := by decide
  unfold Format.read
  rw [w1, w2, w3, w4]
  dsimp only
  generalize x % 9223372036854775808 = r
  by_cases h1 : r < 4503599627370496
  · rw [if_pos h1]
    constructor
    · rintro ⟨s, e, h, _⟩
      injection h
    · intro h
      exact ⟨_, _, by rw [h], by decide⟩
  · rw [if_neg h1]
    constructor
    · rintro ⟨s, e, h, _⟩
      by_cases h2 : r < 9218868437227405312
      · rw [if_pos h2] at h
        injection h with _ h3 _
        omega
      · rw [if_neg h2] at h
        by_cases h3 : r = 9218868437227405312
        · rw [if_pos h3] at h; cases h
        · rw [if_neg h3] at h; cases h
    · intro h; omega
theorem sg_zero_iff (s : Bool) (n : Nat) : sg s n = 0 ↔ n = 0 := by cases s <;> simp [sg]
theorem units_zero_iff {m : Nat} {e : Int} : units m e = 0 ↔ m = 0 := by
  rw [units]
  have h : 0 < 2 ^ (e + 1074).toNat := Nat.two_pow_pos _
  constructor
  · intro hm
    rcases Nat.mul_eq_zero.1 hm with h1 | h1
    · exact h1
    · omega
  · rintro rfl; rw [Nat.zero_mul]
theorem order_zero (x : Nat) : (double.order x 0 == some .eq) = decide (x % 9223372036854775808 = 0) := by
  have r0 : double.read 0 = .number false 0 (-1074) := by decide
  have hz := read_zero_iff x
  rcases read_cases x with ⟨s, u, hr⟩ | ⟨s, hr⟩ | ⟨s, m, e, hr, hm, he, he'⟩
  · have hne : ¬ x % 9223372036854775808 = 0 := fun h => by obtain ⟨s', e', h', _⟩ := hz.2 h; rw [hr] at h'; cases h'
    rw [decide_eq_false hne, Format.order, hr]
    rfl
  · have hne : ¬ x % 9223372036854775808 = 0 := fun h => by obtain ⟨s', e', h', _⟩ := hz.2 h; rw [hr] at h'; cases h'
    rw [decide_eq_false hne, Format.order, hr, r0]
    cases s <;> rfl
  · rw [order_num hr r0 he (by decide), cmp_eq, decide_eq_decide]
    have z : units 0 (-1074) = 0 := units_zero_iff.2 rfl
    rw [z, sg_false]
    have e1 : sg s (units m e) = ((0 : Nat) : Int) ↔ m = 0 := by
      rw [← units_zero_iff (m := m) (e := e), ← sg_zero_iff s]
      rfl
    rw [e1, ← hz]
    constructor
    · rintro rfl; exact ⟨s, e, hr, he⟩
    · rintro ⟨s', e', h', _⟩; rw [hr] at h'; injection h'
theorem truth_double (n : Int) (h0 : 0 ≤ n) (h1 : n < 18446744073709551616) : (bits BinOp.andNot IntKind.u64 n 9223372036854775808 != 0) = (FloatKind.f64.format.order n.toNat 0 != some .eq) := by
  have hf : FloatKind.f64.format = double := rfl
  rw [hf, bne, bne, order_zero, u64_andNot n 9223372036854775808 h0 h1 (by decide) (by decide)]
  have e : (18446744073709551615 - (9223372036854775808 : Int).toNat) = 2 ^ 63 - 1 := by decide
  rw [e, Nat.and_two_pow_sub_one_eq_mod]
  congr 1
  rw [Bool.eq_iff_iff]
  simp only [beq_iff_eq, decide_eq_true_eq]
  omega
end Go.Proofs.Ytopnbdblgfjnpaa
