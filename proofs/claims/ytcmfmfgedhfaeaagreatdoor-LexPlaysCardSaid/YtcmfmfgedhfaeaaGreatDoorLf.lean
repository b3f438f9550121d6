/- Places; brokenAt: where the first bytes stand that are no rune. -/
import Derived.Test.YtcmfmfgedhfaeaaGreatDoorLd
namespace Go.Proofs.YtcmfmfgedhfaeaaGreatDoor
set_option linter.unusedSimpArgs false
set_option linter.unusedVariables false
open Go.RowKit

theorem first_any (w : World) : Calls Tryz.prog 23 #[] w fun e w' => e = .returned (.agg #[.int .i64 1, .int .i64 1]) ∧ Fresh w w' := by
  have hf : Hid (Fresh w (w.alloc (.cells #[.int .i64 1, .int .i64 1] 25))) := Lib.hid ((Fresh.refl w).alloc _ _)
  go_enter Tryz.func23, Tryz.ntmps23
  go_wp2_with fail
  refine bodyPost_ret (v := ?_) ?_ rfl ?_; rotate_left 1; focus (simp [results, Tryz.results23, go_sem, *]; (try rfl); done)
  exact ⟨rfl, hf.out⟩
/-- The place behind a rune. -/
def behZ (l c r : Int) : Int × Int := if r = 10 then (l + 1, 1) else (l, c + 1)
theorem behind_any (l c r : Int) (hl : 0 ≤ l ∧ l < 4611686018427387904) (hc : 0 ≤ c ∧ c < 4611686018427387904) (w : World) :
    Calls Tryz.prog 25 #[.agg #[.int .i64 l, .int .i64 c], .int .i32 r] w fun e w' => e = .returned (.agg #[.int .i64 (behZ l c r).1, .int .i64 (behZ l c r).2]) ∧ Fresh w w' := by
  by_cases h : r = 10
  · subst h
    go_enter Tryz.func25, Tryz.ntmps25
    go_wp2_with fail
    refine bodyPost_ret (v := ?_) ?_ rfl ?_; rotate_left 1; focus (simp [results, Tryz.results25, go_sem, *]; (try rfl); done)
    exact ⟨by simp [behZ], (((Fresh.refl w).alloc _ _).alloc _ _)⟩
  · have b1 : (r == 10) = false := by simpa using h
    go_enter Tryz.func25, Tryz.ntmps25
    go_wp2_with fail
    refine bodyPost_ret (v := ?_) ?_ rfl ?_; rotate_left 1; focus (simp [results, Tryz.results25, go_sem, *]; (try rfl); done)
    exact ⟨by simp [behZ, h], (((Fresh.refl w).alloc _ _).alloc _ _)⟩
end Go.Proofs.YtcmfmfgedhfaeaaGreatDoor
