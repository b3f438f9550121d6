/- A double that is cut to a whole number lies within bounds just where it did itself, the bounds being taken as the document's own answers take them. -/
import Derived.Test.YtopnbdblgfjnpaaL
namespace Go.Proofs.Ytopnbdblgfjnpaa
set_option linter.unusedSimpArgs false
set_option linter.unusedVariables false
open Ieee Go.RowKit
attribute [local irreducible] units bigP

theorem sg_scale_le (s s' : Bool) (K j : Nat) : sg s (K * bigP) ≤ sg s' (j * bigP) ↔ sg s K ≤ sg s' j := by
  have hp : (0 : Int) < (bigP : Int) := by have := bigP_pos; omega
  rw [← sg_mul, ← sg_mul]
  exact Int.mul_le_mul_right hp
theorem sg_scale_lt (s s' : Bool) (K j : Nat) : sg s (K * bigP) < sg s' (j * bigP) ↔ sg s K < sg s' j := by
  have hp : (0 : Int) < (bigP : Int) := by have := bigP_pos; omega
  rw [← sg_mul, ← sg_mul]
  exact Int.mul_lt_mul_right hp
/-- What is left of a number cut towards zero, written and read back. -/
theorem trunc_read {s : Bool} {m : Nat} {e : Int} (hm : m < 2 ^ 53) (he : -1074 ≤ e) (he' : e ≤ 971) :
    ∃ m' e', double.read (double.write ((Datum.number s m e).integral .zero)) = .number s m' e' ∧ -1074 ≤ e' ∧ units m' e' = (units m e / bigP) * bigP := by
  rw [integral_zero s m e he]
  have h := whole_has m e hm he he'
  exact write_whole s _ h.1 h.2
theorem toI_trunc {s : Bool} {t m' K : Nat} {e' : Int} (ht : double.read t = .number s m' e') (he : -1074 ≤ e') (hu : units m' e' = K * bigP) : toI t = sg s K := by
  have h := toI_number ht he
  unfold toI
  rw [h, hu, Nat.mul_div_cancel _ bigP_pos]
  rfl
theorem win_trunc_signed {x t low lo hi m m' B Bo j jo : Nat} {s : Bool} {e e' el eo : Int} (hx : double.read x = .number s m e) (he : -1074 ≤ e) (ht : double.read t = .number s m' e') (het : -1074 ≤ e') (hu : units m' e' = (units m e / bigP) * bigP)
    (rl : double.read low = .number true B el) (rh : double.read hi = .number false B el) (hel : -1074 ≤ el) (hB : units B el = j * bigP) (hj : 0 < j)
    (ro : double.read lo = .number true Bo eo) (heo : -1074 ≤ eo) (hBo : units Bo eo = jo * bigP) (hjo : 0 < jo)
    (gap : -(jo : Int) < sg s (units m e / bigP) ↔ -(j : Int) ≤ sg s (units m e / bigP)) :
    winL t low hi = ((FloatKind.f64.format.order x lo == some .gt) && (FloatKind.f64.format.order x hi == some .lt)) := by
  have hf : FloatKind.f64.format = double := rfl
  unfold winL
  rw [hf, order_num ht rl het hel, order_num ht rh het hel, order_num hx ro he heo, order_num hx rh he hel, cmp_ge, cmp_lt, cmp_gt, cmp_lt, hu, hB, hBo]
  congr 1
  · rw [decide_eq_decide, sg_scale_le, sg_gt_neg hjo, gap, sg_true]
  · rw [decide_eq_decide, sg_scale_lt, sg_lt_pos hj, sg_false]
theorem win_trunc_unsigned {x t low lo hi m m' B Bo j : Nat} {s : Bool} {e e' el eh eo : Int} (hx : double.read x = .number s m e) (he : -1074 ≤ e) (ht : double.read t = .number s m' e') (het : -1074 ≤ e') (hu : units m' e' = (units m e / bigP) * bigP)
    (rl : double.read low = .number false 0 el) (hel : -1074 ≤ el) (rh : double.read hi = .number false B eh) (heh : -1074 ≤ eh) (hB : units B eh = j * bigP) (hj : 0 < j)
    (ro : double.read lo = .number true Bo eo) (heo : -1074 ≤ eo) (hBo : units Bo eo = 1 * bigP) :
    winL t low hi = ((FloatKind.f64.format.order x lo == some .gt) && (FloatKind.f64.format.order x hi == some .lt)) := by
  have hf : FloatKind.f64.format = double := rfl
  have z : units 0 el = 0 * bigP := by simp [units]
  unfold winL
  rw [hf, order_num ht rl het hel, order_num ht rh het heh, order_num hx ro he heo, order_num hx rh he heh, cmp_ge, cmp_lt, cmp_gt, cmp_lt, hu, hB, hBo, z]
  congr 1
  · rw [decide_eq_decide, sg_scale_le, sg_gt_neg (by decide), sg_false]
    omega
  · rw [decide_eq_decide, sg_scale_lt, sg_lt_pos hj, sg_false]
theorem uo31 : units 4503599629467648 (-21) = 2147483649 * bigP := by
  have h := units_neg 2147483649 21 (by decide)
  rw [show (2147483649 * 2 ^ 21 : Nat) = 4503599629467648 by decide, show (-((21 : Nat) : Int)) = -21 by decide] at h
  exact h
theorem uo1 : units 4503599627370496 (-52) = 1 * bigP := by
  have h := units_neg 1 52 (by decide)
  rw [show (1 * 2 ^ 52 : Nat) = 4503599627370496 by decide, show (-((52 : Nat) : Int)) = -52 by decide] at h
  exact h
theorem uo63 : units 4503599627370497 11 = 9223372036854777856 * bigP := by
  have h := units_nonneg 4503599627370497 11
  rw [show (4503599627370497 * 2 ^ 11 : Nat) = 9223372036854777856 by decide, show ((11 : Nat) : Int) = 11 by decide] at h
  exact h
theorem trunc31 {x t m : Nat} {s : Bool} {e : Int} (hx : double.read x = .number s m e) (hm : m < 2 ^ 53) (he : -1074 ≤ e) (he' : e ≤ 971) (hT : t = double.write ((Datum.number s m e).integral .zero)) :
    winL t 13970166044103278592 4746794007248502784 = ((FloatKind.f64.format.order x 13970166044105375744 == some .gt) && (FloatKind.f64.format.order x 4746794007248502784 == some .lt)) := by
  obtain ⟨m', e', hr, h1, hu⟩ := trunc_read (s := s) hm he he'
  rw [← hT] at hr
  exact win_trunc_signed (j := 2147483648) (jo := 2147483649) (el := -21) (eo := -21) (B := 4503599627370496) (Bo := 4503599629467648) hx he hr h1 hu (by decide) (by decide) (by decide) u31 (by decide) (by decide) (by decide) uo31 (by decide) (by omega)
theorem trunc32 {x t m : Nat} {s : Bool} {e : Int} (hx : double.read x = .number s m e) (hm : m < 2 ^ 53) (he : -1074 ≤ e) (he' : e ≤ 971) (hT : t = double.write ((Datum.number s m e).integral .zero)) :
    winL t 0 4751297606875873280 = ((FloatKind.f64.format.order x 13830554455654793216 == some .gt) && (FloatKind.f64.format.order x 4751297606875873280 == some .lt)) := by
  obtain ⟨m', e', hr, h1, hu⟩ := trunc_read (s := s) hm he he'
  rw [← hT] at hr
  exact win_trunc_unsigned (j := 4294967296) (el := -1074) (eh := -20) (eo := -52) (B := 4503599627370496) (Bo := 4503599627370496) hx he hr h1 hu (by decide) (by decide) (by decide) (by decide) u32 (by decide) (by decide) (by decide) uo1
theorem trunc63 {x t m : Nat} {s : Bool} {e : Int} (hx : double.read x = .number s m e) (hm : m < 2 ^ 53) (he : -1074 ≤ e) (he' : e ≤ 971) (hT : t = double.write ((Datum.number s m e).integral .zero)) :
    winL t 14114281232179134464 4890909195324358656 = ((FloatKind.f64.format.order x 14114281232179134465 == some .gt) && (FloatKind.f64.format.order x 4890909195324358656 == some .lt)) := by
  obtain ⟨m', e', hr, h1, hu⟩ := trunc_read (s := s) hm he he'
  rw [← hT] at hr
  have gap := whole_gap m e hm he
  refine win_trunc_signed (j := 9223372036854775808) (jo := 9223372036854777856) (el := 11) (eo := 11) (B := 4503599627370496) (Bo := 4503599627370497) hx he hr h1 hu (by decide) (by decide) (by decide) u63 (by decide) (by decide) (by decide) uo63 (by decide) ?_
  generalize units m e / bigP = K at *
  cases s
  · rw [sg_false]; omega
  · rw [sg_true]; omega
theorem trunc64 {x t m : Nat} {s : Bool} {e : Int} (hx : double.read x = .number s m e) (hm : m < 2 ^ 53) (he : -1074 ≤ e) (he' : e ≤ 971) (hT : t = double.write ((Datum.number s m e).integral .zero)) :
    winL t 0 4895412794951729152 = ((FloatKind.f64.format.order x 13830554455654793216 == some .gt) && (FloatKind.f64.format.order x 4895412794951729152 == some .lt)) := by
  obtain ⟨m', e', hr, h1, hu⟩ := trunc_read (s := s) hm he he'
  rw [← hT] at hr
  exact win_trunc_unsigned (j := 18446744073709551616) (el := -1074) (eh := 12) (eo := -52) (B := 4503599627370496) (Bo := 4503599627370496) hx he hr h1 hu (by decide) (by decide) (by decide) (by decide) u64 (by decide) (by decide) (by decide) uo1
end Go.Proofs.Ytopnbdblgfjnpaa
