/- The fixed calls of Call and Answer. -/
import Derived.Test.YtjbflmpnmobngaaDoorDi
namespace Go.Proofs.YtjbflmpnmobngaaDoor
set_option linter.unusedSimpArgs false
set_option linter.unusedVariables false
open Go.RowKit

theorem intOf_x (n : Int) (w : World) : Calls Tryd.prog 26 #[.int .i32 n] w fun e w' => e = .returned (.agg #[.int .i64 1, .int .u64 (n % 4294967296), .int .i64 0]) ∧ Fresh w w' := by
  go_enter Tryd.func26, Tryd.ntmps26
  go_wp2
  go_returns
  exact ⟨rfl, (Fresh.refl _).alloc _ _⟩
theorem intOf_1 (n : Int) (h : n % 4294967296 = 1) (w : World) : Calls Tryd.prog 26 #[.int .i32 n] w fun e w' => e = .returned (.agg #[.int .i64 1, .int .u64 1, .int .i64 0]) ∧ Fresh w w' := by
  have := intOf_x n w
  rw [h] at this
  exact this
theorem dblOf_0 (w : World) : Calls Tryd.prog 28 #[.int .u64 0] w fun e w' => e = .returned (.agg #[.int .i64 3, .int .u64 0, .int .i64 0]) ∧ Fresh w w' := by
  go_enter Tryd.func28, Tryd.ntmps28
  go_wp2
  go_returns
  exact ⟨rfl, (Fresh.refl _).alloc _ _⟩
theorem answer_1 (C co cc : Nat) (w : World) (hc : 1 ≤ cc) (h : w.cell? ⟨C, co, none⟩ = some (.int .i64 4294967297)) :
    Calls Tryd.prog 11 #[.int .i64 1, .slice (some ⟨C, co, none⟩) 1 cc, .int .i64 0] w fun e w' => e = .returned (.agg #[.int .i64 1, .int .u64 1, .int .i64 0]) ∧ Fresh w w' := by
  have hf : Fresh w (w.alloc (.cells #[.int .i64 0, .int .u64 0, .int .i64 0] 30)) := (Fresh.refl w).alloc _ _
  have h' := hf.at' h
  go_enter Tryd.func11, Tryd.ntmps11
  go_wp2_with (go_at_call 26; refine (intOf_1 _ (by decide +kernel) _).mono ?_; rintro e w1 ⟨rfl, h1⟩; obtain ⟨c1, f1⟩ := h1.cells; have z10 := h1.z (n := w.heap.size) (by first | assumption | (simp; done) | (simp; assumption) | (simp; omega)))
  all_goals (refine bodyPost_ret (v := ?_) ?_ rfl ?_; rotate_left 1; focus (simp [results, Tryd.results11, go_sem, *]; (try rfl); done))
  exact ⟨rfl, (by (repeat' first | with_reducible exact Fresh.refl _ | with_reducible assumption | with_reducible refine Fresh.alloc ?_ _ _ | with_reducible refine Fresh.drew ?_ | with_reducible refine Fresh.setCell ?_ ?_ _ | with_reducible refine Fresh.trans ?_ (by assumption) | (simp; done) | (simp; omega)))⟩
theorem isOf_1 (w : World) : Calls Tryd.prog 22 #[.agg #[.int .i64 1, .int .u64 1, .int .i64 0], .int .i64 1] w fun e w' => e = .returned (.bool true) ∧ Fresh w w' := by
  go_enter Tryd.func22, Tryd.ntmps22
  go_wp2
  go_returns
  exact ⟨rfl, (Fresh.refl _).alloc _ _⟩
theorem bits_0 (w : World) : (callFunc 29 #[.float .f64 (floatOfInt .f64 0)]).run Tryd.prog w = .ok (.value (.int .u64 0)) w := by
  rw [run_callFunc_standIn (fn := Tryd.f29) (e := Extern.MathFloatBits.float64bits) (by kernel_rfl) (by kernel_rfl) (by kernel_rfl) (by kernel_rfl) (by rfl)]
  kernel_rfl
theorem answer_3 (w : World) :
    Calls Tryd.prog 11 #[.int .i64 3, .slice none 0 0, .int .i64 3] w fun e w' => e = .returned (.agg #[.int .i64 3, .int .u64 0, .int .i64 0]) ∧ Fresh w w' := by
  have hb := bits_0 (w.alloc (.cells #[.int .i64 0, .int .u64 0, .int .i64 0] 30))
  go_enter Tryd.func11, Tryd.ntmps11
  go_wp2_with (go_at_call 28; refine (dblOf_0 _).mono ?_; rintro e w1 ⟨rfl, h1⟩; obtain ⟨c1, f1⟩ := h1.cells; have z10 := h1.z (n := w.heap.size) (by first | assumption | (simp; done) | (simp; assumption) | (simp; omega)))
  all_goals (refine bodyPost_ret (v := ?_) ?_ rfl ?_; rotate_left 1; focus (simp [results, Tryd.results11, go_sem, *]; (try rfl); done))
  exact ⟨rfl, (by (repeat' first | with_reducible exact Fresh.refl _ | with_reducible assumption | with_reducible refine Fresh.alloc ?_ _ _ | with_reducible refine Fresh.drew ?_ | with_reducible refine Fresh.setCell ?_ ?_ _ | with_reducible refine Fresh.trans ?_ (by assumption) | (simp; done) | (simp; omega)))⟩
end Go.Proofs.YtjbflmpnmobngaaDoor
