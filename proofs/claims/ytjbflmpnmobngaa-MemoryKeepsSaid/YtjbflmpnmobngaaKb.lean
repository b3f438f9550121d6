/- Right values, and numbers cut to a byte or two. -/
import Derived.Test.YtjbflmpnmobngaaKa
namespace Go.Proofs.Ytjbflmpnmobngaa
set_option linter.unusedSimpArgs false
set_option linter.unusedVariables false
open Go.RowKit

def rightL (k n b : Int) : Bool := if k == 0 then (n == 0 && b == 0) else if k == 1 then (decide (n < 4294967296) && b == 0) else if k == 2 || k == 3 then b == 0 else if k == 4 then b != 0 else false
theorem right_v {k n b : Int} (h : rightL k n b = true) : RightV k n b := by
  unfold rightL at h
  refine ⟨fun e => ?_, fun e => ?_, fun e => ?_, fun e => ?_⟩ <;> subst e <;> simp at h
  · exact h
  · exact h
  · exact h
  · exact h
theorem right_any (k n b : Int) (w : World) :
    Calls Try.prog 27 #[.agg #[.int .i64 k, .int .u64 n, .int .i64 b]] w fun e w' => e = .returned (.bool (rightL k n b)) ∧ Fresh w w' := by
  go_enter Try.func27, Try.ntmps27
  go_wp2
  all_goals (go_returns; go_light)
  all_goals exact ⟨ret_bool (by simp_all [rightL]; try omega), (Fresh.refl _).alloc _ _⟩
theorem ret_u64 {a b : Int} (h : b = a) : Ending.returned (.int .u64 a) = Ending.returned (.int .u64 b) := by rw [h]
theorem answer_1 (x : Int) (w : World) :
    Calls Try.prog 57 #[.int .i64 1, .int .u64 x, .bool true] w fun e w' => e = .returned (.tuple #[.agg #[.int .i64 1, .int .u64 x, .int .i64 0], .bool true]) ∧ Fresh w w' := by
  go_enter Try.func57, Try.ntmps57
  go_wp2
  all_goals (go_returns; go_light)
  all_goals exact ⟨rfl, (Fresh.refl _).alloc _ _⟩
theorem turnShape_80 (w : World) : Calls Try.prog 78 #[.int .i64 80] w fun e w' => e = .returned (.tuple #[.int .i64 1, .int .i64 1]) ∧ w = w' := by
  go_enter Try.func78, Try.ntmps78
  go_wp2
  all_goals (go_returns; go_light)
  all_goals exact ⟨rfl, rfl⟩
theorem shape_80 (w : World) : Calls Try.prog 59 #[.int .i64 80] w fun e w' => e = .returned (.tuple #[.int .i64 1, .int .i64 0, .int .i64 1]) ∧ w = w' := by
  go_enter Try.func59, Try.ntmps59
  go_wp2_with (go_at_call 78; refine (turnShape_80 _).mono ?_; rintro e w' ⟨rfl, rfl⟩)
  all_goals (go_returns; go_light)
  all_goals exact ⟨rfl, rfl⟩
theorem ext_80 (n : Int) (h0 : 0 ≤ n) (h1 : n < 18446744073709551616) (w : World) : Calls Try.prog 86 #[.int .i64 80, .int .u64 n] w fun e w' => e = .returned (.int .u64 (IntKind.u32.wrap (IntKind.i8.wrap n))) ∧ w = w' := by
  go_enter Try.func86, Try.ntmps86
  go_wp2
  all_goals (go_returns; go_light)
  all_goals exact ⟨ret_u64 (by simp [IntKind.wrap, IntKind.bits, IntKind.signed, wrap32, wrap64] <;> omega), rfl⟩
theorem bits1_80 (n : Int) (h0 : 0 ≤ n) (h1 : n < 18446744073709551616) (w : World) : Calls Try.prog 60 #[.int .i64 80, .int .u64 n] w fun e w' => e = .returned (.tuple #[.int .u64 (IntKind.u32.wrap (IntKind.i8.wrap n)), .bool true]) ∧ w = w' := by
  have H := Lib.hid (And.intro h0 h1)
  clear h0 h1
  go_enter Try.func60, Try.ntmps60
  go_wp2_with (go_at_call 86; refine (ext_80 n H.out.1 H.out.2 _).mono ?_; rintro e w' ⟨rfl, rfl⟩)
  all_goals (go_returns; go_light)
  all_goals exact ⟨rfl, rfl⟩
theorem eval1_80 (n b : Int) (h0 : 0 ≤ n) (h1 : n < 18446744073709551616) (w : World) : Calls Try.prog 28 #[.int .i64 80, .agg #[.int .i64 1, .int .u64 n, .int .i64 b]] w fun e w' => e = .returned (.tuple #[.agg #[.int .i64 1, .int .u64 (IntKind.u32.wrap (IntKind.i8.wrap n)), .int .i64 0], .bool true]) ∧ Fresh w w' := by
  have H := Lib.hid (And.intro h0 h1)
  clear h0 h1
  go_enter Try.func28, Try.ntmps28
  go_wp2_with (first | (go_at_call 59; refine (shape_80 _).mono ?_; rintro e w' ⟨rfl, rfl⟩) | (go_at_call 60; refine (bits1_80 n H.out.1 H.out.2 _).mono ?_; rintro e w' ⟨rfl, rfl⟩) | (go_at_call 57; refine (answer_1 _ _).mono ?_; rintro e w1 ⟨rfl, h1⟩; obtain ⟨c1, f1⟩ := h1.cells; have z10 := h1.z (n := w.heap.size) (by first | assumption | (simp; done) | (simp; assumption) | (simp; omega)); have z11 := h1.z (n := w.heap.size + 1) (by first | assumption | (simp; done) | (simp; assumption) | (simp; omega))))
  all_goals go_light
  all_goals first | go_returns | (refine bodyPost_ret (v := ?_) ?_ rfl ?_; rotate_left 1; focus (simp [results, Try.results28, go_sem, *]; (try rfl); done))
  all_goals exact ⟨rfl, (by (repeat' first | with_reducible exact Fresh.refl _ | with_reducible assumption | with_reducible refine Fresh.alloc ?_ _ _ | with_reducible refine Fresh.drew ?_ | with_reducible refine Fresh.setCell ?_ ?_ _ | with_reducible refine Fresh.trans ?_ (by assumption) | (simp; done) | (simp; omega)))⟩
theorem eval1u_80 (n b : Int) (w : World) : Calls Try.prog 28 #[.int .i64 80, .agg #[.int .i64 0, .int .u64 n, .int .i64 b]] w fun e w' => e = .returned (.tuple #[.agg #[.int .i64 0, .int .u64 0, .int .i64 0], .bool false]) ∧ Fresh w w' := by
  go_enter Try.func28, Try.ntmps28
  go_wp2_with (go_at_call 59; refine (shape_80 _).mono ?_; rintro e w' ⟨rfl, rfl⟩)
  all_goals go_light
  all_goals first | go_returns | (refine bodyPost_ret (v := ?_) ?_ rfl ?_; rotate_left 1; focus (simp [results, Try.results28, go_sem, *]; (try rfl); done))
  all_goals exact ⟨rfl, (by (repeat' first | with_reducible exact Fresh.refl _ | with_reducible assumption | with_reducible refine Fresh.alloc ?_ _ _ | with_reducible refine Fresh.drew ?_ | with_reducible refine Fresh.setCell ?_ ?_ _ | with_reducible refine Fresh.trans ?_ (by assumption) | (simp; done) | (simp; omega)))⟩
theorem turnShape_81 (w : World) : Calls Try.prog 78 #[.int .i64 81] w fun e w' => e = .returned (.tuple #[.int .i64 1, .int .i64 1]) ∧ w = w' := by
  go_enter Try.func78, Try.ntmps78
  go_wp2
  all_goals (go_returns; go_light)
  all_goals exact ⟨rfl, rfl⟩
theorem shape_81 (w : World) : Calls Try.prog 59 #[.int .i64 81] w fun e w' => e = .returned (.tuple #[.int .i64 1, .int .i64 0, .int .i64 1]) ∧ w = w' := by
  go_enter Try.func59, Try.ntmps59
  go_wp2_with (go_at_call 78; refine (turnShape_81 _).mono ?_; rintro e w' ⟨rfl, rfl⟩)
  all_goals (go_returns; go_light)
  all_goals exact ⟨rfl, rfl⟩
theorem ext_81 (n : Int) (h0 : 0 ≤ n) (h1 : n < 18446744073709551616) (w : World) : Calls Try.prog 86 #[.int .i64 81, .int .u64 n] w fun e w' => e = .returned (.int .u64 (n % 256)) ∧ w = w' := by
  go_enter Try.func86, Try.ntmps86
  go_wp2
  all_goals (go_returns; go_light)
  all_goals exact ⟨ret_u64 (by simp [IntKind.wrap, IntKind.bits, IntKind.signed, wrap32, wrap64] <;> omega), rfl⟩
theorem bits1_81 (n : Int) (h0 : 0 ≤ n) (h1 : n < 18446744073709551616) (w : World) : Calls Try.prog 60 #[.int .i64 81, .int .u64 n] w fun e w' => e = .returned (.tuple #[.int .u64 (n % 256), .bool true]) ∧ w = w' := by
  have H := Lib.hid (And.intro h0 h1)
  clear h0 h1
  go_enter Try.func60, Try.ntmps60
  go_wp2_with (go_at_call 86; refine (ext_81 n H.out.1 H.out.2 _).mono ?_; rintro e w' ⟨rfl, rfl⟩)
  all_goals (go_returns; go_light)
  all_goals exact ⟨rfl, rfl⟩
theorem eval1_81 (n b : Int) (h0 : 0 ≤ n) (h1 : n < 18446744073709551616) (w : World) : Calls Try.prog 28 #[.int .i64 81, .agg #[.int .i64 1, .int .u64 n, .int .i64 b]] w fun e w' => e = .returned (.tuple #[.agg #[.int .i64 1, .int .u64 (n % 256), .int .i64 0], .bool true]) ∧ Fresh w w' := by
  have H := Lib.hid (And.intro h0 h1)
  clear h0 h1
  go_enter Try.func28, Try.ntmps28
  go_wp2_with (first | (go_at_call 59; refine (shape_81 _).mono ?_; rintro e w' ⟨rfl, rfl⟩) | (go_at_call 60; refine (bits1_81 n H.out.1 H.out.2 _).mono ?_; rintro e w' ⟨rfl, rfl⟩) | (go_at_call 57; refine (answer_1 _ _).mono ?_; rintro e w1 ⟨rfl, h1⟩; obtain ⟨c1, f1⟩ := h1.cells; have z10 := h1.z (n := w.heap.size) (by first | assumption | (simp; done) | (simp; assumption) | (simp; omega)); have z11 := h1.z (n := w.heap.size + 1) (by first | assumption | (simp; done) | (simp; assumption) | (simp; omega))))
  all_goals go_light
  all_goals first | go_returns | (refine bodyPost_ret (v := ?_) ?_ rfl ?_; rotate_left 1; focus (simp [results, Try.results28, go_sem, *]; (try rfl); done))
  all_goals exact ⟨rfl, (by (repeat' first | with_reducible exact Fresh.refl _ | with_reducible assumption | with_reducible refine Fresh.alloc ?_ _ _ | with_reducible refine Fresh.drew ?_ | with_reducible refine Fresh.setCell ?_ ?_ _ | with_reducible refine Fresh.trans ?_ (by assumption) | (simp; done) | (simp; omega)))⟩
theorem eval1u_81 (n b : Int) (w : World) : Calls Try.prog 28 #[.int .i64 81, .agg #[.int .i64 0, .int .u64 n, .int .i64 b]] w fun e w' => e = .returned (.tuple #[.agg #[.int .i64 0, .int .u64 0, .int .i64 0], .bool false]) ∧ Fresh w w' := by
  go_enter Try.func28, Try.ntmps28
  go_wp2_with (go_at_call 59; refine (shape_81 _).mono ?_; rintro e w' ⟨rfl, rfl⟩)
  all_goals go_light
  all_goals first | go_returns | (refine bodyPost_ret (v := ?_) ?_ rfl ?_; rotate_left 1; focus (simp [results, Try.results28, go_sem, *]; (try rfl); done))
  all_goals exact ⟨rfl, (by (repeat' first | with_reducible exact Fresh.refl _ | with_reducible assumption | with_reducible refine Fresh.alloc ?_ _ _ | with_reducible refine Fresh.drew ?_ | with_reducible refine Fresh.setCell ?_ ?_ _ | with_reducible refine Fresh.trans ?_ (by assumption) | (simp; done) | (simp; omega)))⟩
theorem turnShape_82 (w : World) : Calls Try.prog 78 #[.int .i64 82] w fun e w' => e = .returned (.tuple #[.int .i64 1, .int .i64 1]) ∧ w = w' := by
  go_enter Try.func78, Try.ntmps78
  go_wp2
  all_goals (go_returns; go_light)
  all_goals exact ⟨rfl, rfl⟩
theorem shape_82 (w : World) : Calls Try.prog 59 #[.int .i64 82] w fun e w' => e = .returned (.tuple #[.int .i64 1, .int .i64 0, .int .i64 1]) ∧ w = w' := by
  go_enter Try.func59, Try.ntmps59
  go_wp2_with (go_at_call 78; refine (turnShape_82 _).mono ?_; rintro e w' ⟨rfl, rfl⟩)
  all_goals (go_returns; go_light)
  all_goals exact ⟨rfl, rfl⟩
theorem ext_82 (n : Int) (h0 : 0 ≤ n) (h1 : n < 18446744073709551616) (w : World) : Calls Try.prog 86 #[.int .i64 82, .int .u64 n] w fun e w' => e = .returned (.int .u64 (IntKind.u32.wrap (IntKind.i16.wrap n))) ∧ w = w' := by
  go_enter Try.func86, Try.ntmps86
  go_wp2
  all_goals (go_returns; go_light)
  all_goals exact ⟨ret_u64 (by simp [IntKind.wrap, IntKind.bits, IntKind.signed, wrap32, wrap64] <;> omega), rfl⟩
theorem bits1_82 (n : Int) (h0 : 0 ≤ n) (h1 : n < 18446744073709551616) (w : World) : Calls Try.prog 60 #[.int .i64 82, .int .u64 n] w fun e w' => e = .returned (.tuple #[.int .u64 (IntKind.u32.wrap (IntKind.i16.wrap n)), .bool true]) ∧ w = w' := by
  have H := Lib.hid (And.intro h0 h1)
  clear h0 h1
  go_enter Try.func60, Try.ntmps60
  go_wp2_with (go_at_call 86; refine (ext_82 n H.out.1 H.out.2 _).mono ?_; rintro e w' ⟨rfl, rfl⟩)
  all_goals (go_returns; go_light)
  all_goals exact ⟨rfl, rfl⟩
theorem eval1_82 (n b : Int) (h0 : 0 ≤ n) (h1 : n < 18446744073709551616) (w : World) : Calls Try.prog 28 #[.int .i64 82, .agg #[.int .i64 1, .int .u64 n, .int .i64 b]] w fun e w' => e = .returned (.tuple #[.agg #[.int .i64 1, .int .u64 (IntKind.u32.wrap (IntKind.i16.wrap n)), .int .i64 0], .bool true]) ∧ Fresh w w' := by
  have H := Lib.hid (And.intro h0 h1)
  clear h0 h1
  go_enter Try.func28, Try.ntmps28
  go_wp2_with (first | (go_at_call 59; refine (shape_82 _).mono ?_; rintro e w' ⟨rfl, rfl⟩) | (go_at_call 60; refine (bits1_82 n H.out.1 H.out.2 _).mono ?_; rintro e w' ⟨rfl, rfl⟩) | (go_at_call 57; refine (answer_1 _ _).mono ?_; rintro e w1 ⟨rfl, h1⟩; obtain ⟨c1, f1⟩ := h1.cells; have z10 := h1.z (n := w.heap.size) (by first | assumption | (simp; done) | (simp; assumption) | (simp; omega)); have z11 := h1.z (n := w.heap.size + 1) (by first | assumption | (simp; done) | (simp; assumption) | (simp; omega))))
  all_goals go_light
  all_goals first | go_returns | (refine bodyPost_ret (v := ?_) ?_ rfl ?_; rotate_left 1; focus (simp [results, Try.results28, go_sem, *]; (try rfl); done))
  all_goals exact ⟨rfl, (by (repeat' first | with_reducible exact Fresh.refl _ | with_reducible assumption | with_reducible refine Fresh.alloc ?_ _ _ | with_reducible refine Fresh.drew ?_ | with_reducible refine Fresh.setCell ?_ ?_ _ | with_reducible refine Fresh.trans ?_ (by assumption) | (simp; done) | (simp; omega)))⟩
theorem eval1u_82 (n b : Int) (w : World) : Calls Try.prog 28 #[.int .i64 82, .agg #[.int .i64 0, .int .u64 n, .int .i64 b]] w fun e w' => e = .returned (.tuple #[.agg #[.int .i64 0, .int .u64 0, .int .i64 0], .bool false]) ∧ Fresh w w' := by
  go_enter Try.func28, Try.ntmps28
  go_wp2_with (go_at_call 59; refine (shape_82 _).mono ?_; rintro e w' ⟨rfl, rfl⟩)
  all_goals go_light
  all_goals first | go_returns | (refine bodyPost_ret (v := ?_) ?_ rfl ?_; rotate_left 1; focus (simp [results, Try.results28, go_sem, *]; (try rfl); done))
  all_goals exact ⟨rfl, (by (repeat' first | with_reducible exact Fresh.refl _ | with_reducible assumption | with_reducible refine Fresh.alloc ?_ _ _ | with_reducible refine Fresh.drew ?_ | with_reducible refine Fresh.setCell ?_ ?_ _ | with_reducible refine Fresh.trans ?_ (by assumption) | (simp; done) | (simp; omega)))⟩
theorem turnShape_83 (w : World) : Calls Try.prog 78 #[.int .i64 83] w fun e w' => e = .returned (.tuple #[.int .i64 1, .int .i64 1]) ∧ w = w' := by
  go_enter Try.func78, Try.ntmps78
  go_wp2
  all_goals (go_returns; go_light)
  all_goals exact ⟨rfl, rfl⟩
theorem shape_83 (w : World) : Calls Try.prog 59 #[.int .i64 83] w fun e w' => e = .returned (.tuple #[.int .i64 1, .int .i64 0, .int .i64 1]) ∧ w = w' := by
  go_enter Try.func59, Try.ntmps59
  go_wp2_with (go_at_call 78; refine (turnShape_83 _).mono ?_; rintro e w' ⟨rfl, rfl⟩)
  all_goals (go_returns; go_light)
  all_goals exact ⟨rfl, rfl⟩
theorem ext_83 (n : Int) (h0 : 0 ≤ n) (h1 : n < 18446744073709551616) (w : World) : Calls Try.prog 86 #[.int .i64 83, .int .u64 n] w fun e w' => e = .returned (.int .u64 (n % 65536)) ∧ w = w' := by
  go_enter Try.func86, Try.ntmps86
  go_wp2
  all_goals (go_returns; go_light)
  all_goals exact ⟨ret_u64 (by simp [IntKind.wrap, IntKind.bits, IntKind.signed, wrap32, wrap64] <;> omega), rfl⟩
theorem bits1_83 (n : Int) (h0 : 0 ≤ n) (h1 : n < 18446744073709551616) (w : World) : Calls Try.prog 60 #[.int .i64 83, .int .u64 n] w fun e w' => e = .returned (.tuple #[.int .u64 (n % 65536), .bool true]) ∧ w = w' := by
  have H := Lib.hid (And.intro h0 h1)
  clear h0 h1
  go_enter Try.func60, Try.ntmps60
  go_wp2_with (go_at_call 86; refine (ext_83 n H.out.1 H.out.2 _).mono ?_; rintro e w' ⟨rfl, rfl⟩)
  all_goals (go_returns; go_light)
  all_goals exact ⟨rfl, rfl⟩
theorem eval1_83 (n b : Int) (h0 : 0 ≤ n) (h1 : n < 18446744073709551616) (w : World) : Calls Try.prog 28 #[.int .i64 83, .agg #[.int .i64 1, .int .u64 n, .int .i64 b]] w fun e w' => e = .returned (.tuple #[.agg #[.int .i64 1, .int .u64 (n % 65536), .int .i64 0], .bool true]) ∧ Fresh w w' := by
  have H := Lib.hid (And.intro h0 h1)
  clear h0 h1
  go_enter Try.func28, Try.ntmps28
  go_wp2_with (first | (go_at_call 59; refine (shape_83 _).mono ?_; rintro e w' ⟨rfl, rfl⟩) | (go_at_call 60; refine (bits1_83 n H.out.1 H.out.2 _).mono ?_; rintro e w' ⟨rfl, rfl⟩) | (go_at_call 57; refine (answer_1 _ _).mono ?_; rintro e w1 ⟨rfl, h1⟩; obtain ⟨c1, f1⟩ := h1.cells; have z10 := h1.z (n := w.heap.size) (by first | assumption | (simp; done) | (simp; assumption) | (simp; omega)); have z11 := h1.z (n := w.heap.size + 1) (by first | assumption | (simp; done) | (simp; assumption) | (simp; omega))))
  all_goals go_light
  all_goals first | go_returns | (refine bodyPost_ret (v := ?_) ?_ rfl ?_; rotate_left 1; focus (simp [results, Try.results28, go_sem, *]; (try rfl); done))
  all_goals exact ⟨rfl, (by (repeat' first | with_reducible exact Fresh.refl _ | with_reducible assumption | with_reducible refine Fresh.alloc ?_ _ _ | with_reducible refine Fresh.drew ?_ | with_reducible refine Fresh.setCell ?_ ?_ _ | with_reducible refine Fresh.trans ?_ (by assumption) | (simp; done) | (simp; omega)))⟩
theorem eval1u_83 (n b : Int) (w : World) : Calls Try.prog 28 #[.int .i64 83, .agg #[.int .i64 0, .int .u64 n, .int .i64 b]] w fun e w' => e = .returned (.tuple #[.agg #[.int .i64 0, .int .u64 0, .int .i64 0], .bool false]) ∧ Fresh w w' := by
  go_enter Try.func28, Try.ntmps28
  go_wp2_with (go_at_call 59; refine (shape_83 _).mono ?_; rintro e w' ⟨rfl, rfl⟩)
  all_goals go_light
  all_goals first | go_returns | (refine bodyPost_ret (v := ?_) ?_ rfl ?_; rotate_left 1; focus (simp [results, Try.results28, go_sem, *]; (try rfl); done))
  all_goals exact ⟨rfl, (by (repeat' first | with_reducible exact Fresh.refl _ | with_reducible assumption | with_reducible refine Fresh.alloc ?_ _ _ | with_reducible refine Fresh.drew ?_ | with_reducible refine Fresh.setCell ?_ ?_ _ | with_reducible refine Fresh.trans ?_ (by assumption) | (simp; done) | (simp; omega)))⟩
end Go.Proofs.Ytjbflmpnmobngaa
