/- Laws of whole numbers: a number taken to a greater kind is given back. The pure part. -/
import Derived.Test.YtopnbdblgfjnpaaOb
import Derived.Test.YtopnbdblgfjnpaaSl
namespace Go.Proofs.Ytopnbdblgfjnpaa
set_option linter.unusedSimpArgs false
set_option linter.unusedVariables false
open Ieee Go.RowKit
attribute [local irreducible] units bigP

theorem small_log (k : Nat) (h : k ≤ 2147483648) : k.log2 ≤ 31 := log2_lt_of (k := 31) (by omega)
theorem int_back (x : Int) (h1 : -2147483648 ≤ x) (h2 : x < 2147483648) {t : Nat} (hT : TruncOf (floatOfInt .f64 x) t) :
    winL t 13970166044103278592 4746794007248502784 = true ∧ toI t = x := by
  have hk : x.natAbs ≤ 2147483648 := by omega
  have hl := small_log _ hk
  obtain ⟨m, e, hr, he, hu⟩ := write_whole (decide (x < 0)) x.natAbs (by omega) (by rw [show x.natAbs.log2 - 52 = 0 by omega, Nat.pow_zero]; exact Nat.mod_one _)
  have hr' : double.read (floatOfInt .f64 x) = .number (decide (x < 0)) m e := hr
  have hb : m < 2 ^ 53 ∧ e ≤ 971 := by
    rcases read_cases (floatOfInt .f64 x) with ⟨s, u, q⟩ | ⟨s, q⟩ | ⟨s, m', e', q, a, b, c⟩
    · rw [hr'] at q; cases q
    · rw [hr'] at q; cases q
    · rw [hr'] at q; cases q; exact ⟨a, c⟩
  obtain ⟨m', e', ht, he', hu'⟩ := trunc_read (s := decide (x < 0)) hb.1 he hb.2
  rw [← hT.number _ _ _ hr', hu, Nat.mul_div_cancel _ bigP_pos] at *
  have hi := toI_trunc ht he' hu'
  have hx : sg (decide (x < 0)) x.natAbs = x := by
    by_cases hn : x < 0
    · simp [sg, hn]; omega
    · simp [sg, hn]; omega
  refine ⟨?_, by rw [hi, hx]⟩
  have hf : FloatKind.f64.format = double := rfl
  have rl : double.read 13970166044103278592 = .number true 4503599627370496 (-21) := by decide
  have rh : double.read 4746794007248502784 = .number false 4503599627370496 (-21) := by decide
  unfold winL
  rw [hf, order_num ht rl he' (by decide), order_num ht rh he' (by decide), cmp_ge, cmp_lt, u31, hu']
  have a := (sg_scale_le true (decide (x < 0)) 2147483648 x.natAbs).2 (by rw [hx, sg_true]; omega)
  have b := (sg_scale_lt (decide (x < 0)) false x.natAbs 2147483648).2 (by rw [hx, sg_false]; omega)
  simp [a, b]
abbrev Turns (o k a r v : Int) : Prop := ∀ w : World, Calls Try.prog 13 #[.int .i64 o, .agg #[.int .i64 k, .int .u64 a, .int .i64 0]] w fun e w' => e = .returned (.tuple #[.agg #[.int .i64 r, .int .u64 v, .int .i64 0], .bool true]) ∧ Fresh w w'
theorem turns {o k a r v : Int} (h : ∀ t, TruncOf a.toNat t → eval1L o k a t = ((r, v, 0), true)) : Turns o k a r v := fun w =>
  (evalT_any o k a 0 w).mono fun e w' ⟨t, he, hf, hT⟩ => by
    rw [h t hT] at he
    exact ⟨he, hf⟩
theorem wrap32_back (a : Int) (ha : 0 ≤ a) (hA : a < 4294967296) : wrap32 a % 4294967296 = a := by unfold wrap32; omega
theorem t87 (a : Int) : Turns 87 1 a 3 (floatOfInt .f64 (wrap32 a)) := turns fun t _ => by
  simp [eval1L, show shapeL 87 = (1, 0, 3) by decide, bits1L, answerL, doubleL]
theorem t91 (a : Int) (ha : 0 ≤ a) (hA : a < 4294967296) : Turns 91 3 (floatOfInt .f64 (wrap32 a)) 1 a := turns fun t hT => by
  rw [Int.toNat_natCast] at hT
  obtain ⟨b1, b2⟩ := int_back (wrap32 a) (by unfold wrap32; omega) (by unfold wrap32; omega) hT
  simp [eval1L, show shapeL 91 = (3, 0, 1) by decide, bits1L, answerL, cutL, c31, b1, b2, wrap32_back a ha hA]
theorem t84 (a : Int) : Turns 84 1 a 2 (IntKind.u64.wrap (wrap32 a)) := turns fun t _ => by
  simp [eval1L, show shapeL 84 = (1, 0, 2) by decide, bits1L, answerL, extendL]
theorem t85 (a : Int) (ha : 0 ≤ a) (hA : a < 4294967296) : Turns 85 1 a 2 a := turns fun t _ => by
  simp [eval1L, show shapeL 85 = (1, 0, 2) by decide, bits1L, answerL, extendL]
  omega
theorem t86 (a b : Int) (h : b % 4294967296 = a) : Turns 86 2 b 1 a := turns fun t _ => by
  simp [eval1L, show shapeL 86 = (2, 0, 1) by decide, bits1L, answerL, extendL, h]
theorem t86s (a : Int) (ha : 0 ≤ a) (hA : a < 4294967296) : Turns 86 2 (IntKind.u64.wrap (wrap32 a)) 1 a := t86 a _ (by rw [u64w]; unfold wrap32; omega)
theorem t86u (a : Int) (ha : 0 ≤ a) (hA : a < 4294967296) : Turns 86 2 a 1 a := t86 a _ (by omega)
end Go.Proofs.Ytopnbdblgfjnpaa
