/- What the document's own Eval1, Truth and Right answer: mach's answers. -/
import Derived.Test.YtopnbdblgfjnpaaOc
namespace Go.Proofs.Ytopnbdblgfjnpaa
set_option linter.unusedSimpArgs false
set_option linter.unusedVariables false
open Ieee Go.RowKit
attribute [local irreducible] units bigP
attribute [local go_sem ↓] run_f64bits run_f64from

theorem rtruth_any (k n b : Int) (h0 : 0 ≤ n) (h1 : n < 18446744073709551616) (w : World) :
    Calls Try.prog 16 #[.agg #[.int .i64 k, .int .u64 n, .int .i64 b]] w fun e w' => e = .returned (.tuple #[.bool (truthL k n).1, .bool (truthL k n).2]) ∧ Fresh w w' := by
  have td := Lib.hid (truth_double n h0 h1)
  go_enter Try.func16, Try.ntmps16
  go_wp2_with (first | (go_at_call 41; refine (ru32_any _ _ _ _).mono ?_; rintro e w' ⟨rfl, rfl⟩) | (go_at_call 38; refine (rdbl_any _ _ _ _).mono ?_; rintro e w' ⟨rfl, rfl⟩))
  all_goals (go_returns; go_light)
  all_goals exact ⟨ret_bools (by first | (simp [truthL, *]; done) | (simp [truthL, td.out, *]; done)), (by (repeat' first | with_reducible exact Fresh.refl _ | with_reducible assumption | with_reducible refine Fresh.alloc ?_ _ _ | with_reducible refine Fresh.drew ?_ | with_reducible refine Fresh.setCell ?_ ?_ _ | with_reducible refine Fresh.trans ?_ (by assumption) | (simp; done) | (simp; omega)))⟩
theorem rright_any (k n b : Int) (w : World) :
    Calls Try.prog 18 #[.agg #[.int .i64 k, .int .u64 n, .int .i64 b]] w fun e w' => e = .returned (.bool (rightL k n b)) ∧ Fresh w w' := by
  go_enter Try.func18, Try.ntmps18
  go_wp2
  all_goals (go_returns; go_light)
  all_goals exact ⟨ret_bool (by first | (simp_all [rightL]; done) | (simp_all [rightL]; omega)), (by (repeat' first | with_reducible exact Fresh.refl _ | with_reducible assumption | with_reducible refine Fresh.alloc ?_ _ _ | with_reducible refine Fresh.drew ?_ | with_reducible refine Fresh.setCell ?_ ?_ _ | with_reducible refine Fresh.trans ?_ (by assumption) | (simp; done) | (simp; omega)))⟩
def sameL (k n b k' n' b' : Int) : Bool := k == k' && n == n' && b == b'
theorem same_any (k n b k' n' b' : Int) (w : World) :
    Calls Try.prog 19 #[.agg #[.int .i64 k, .int .u64 n, .int .i64 b], .agg #[.int .i64 k', .int .u64 n', .int .i64 b']] w fun e w' => e = .returned (.bool (sameL k n b k' n' b')) ∧ Fresh w w' := by
  go_enter Try.func19, Try.ntmps19
  go_wp2
  all_goals (go_returns; go_light)
  all_goals exact ⟨ret_bool (by simp_all [sameL]), (by (repeat' first | with_reducible exact Fresh.refl _ | with_reducible assumption | with_reducible refine Fresh.alloc ?_ _ _ | with_reducible refine Fresh.drew ?_ | with_reducible refine Fresh.setCell ?_ ?_ _ | with_reducible refine Fresh.trans ?_ (by assumption) | (simp; done) | (simp; omega)))⟩
end Go.Proofs.Ytopnbdblgfjnpaa
