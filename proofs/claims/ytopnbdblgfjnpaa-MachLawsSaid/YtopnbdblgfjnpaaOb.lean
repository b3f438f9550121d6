/- What mach's Eval1 answers of any value, with what Trunc answers of a double. -/
import Derived.Test.YtopnbdblgfjnpaaO
import Derived.Test.YtopnbdblgfjnpaaIb
namespace Go.Proofs.Ytopnbdblgfjnpaa
set_option linter.unusedSimpArgs false
set_option linter.unusedVariables false
open Go.RowKit
attribute [local go_sem ↓] run_f64bits run_f64from
def TruncDbl (x : Nat) (w : World) (e : Ending) (w' : World) : Prop := ∃ t : Nat, e = .returned (.float .f64 t) ∧ Fresh w w' ∧ TruncOf x t
theorem truncT_any (x : Nat) (w : World) : Calls Try.prog 63 #[.float .f64 x] w (TruncDbl x w) := by
  obtain ⟨t, w1, hr, h1, hT⟩ := run_truncOf x w
  go_enter Try.func63, Try.ntmps63
  go_wp2
  all_goals (go_returns; exact ⟨t, rfl, h1, hT⟩)
def BitsT (o x : Int) (w : World) (e : Ending) (w' : World) : Prop := ∃ t : Nat, e = .returned (.tuple #[.int .u64 (bits1L o x t).1, .bool (bits1L o x t).2]) ∧ Fresh w w' ∧ TruncOf x.toNat t
set_option maxHeartbeats 2000000 in
theorem bitsT_any (o x : Int) (h1 : 1 ≤ o) (h2 : o ≤ 96) (w : World) :
    Calls Try.prog 47 #[.int .i64 o, .int .u64 x] w (BitsT o x w) := by
  obtain ⟨t0, _, _, _, ht0⟩ := run_truncOf x.toNat w
  go_enter Try.func47, Try.ntmps47
  go_wp2_with (first | (go_at_call 60; refine (turn32_any _ _ _).mono ?_; rintro e w' ⟨rfl, rfl⟩) | (go_at_call 61; refine (turn64_any _ _ _).mono ?_; rintro e w' ⟨rfl, rfl⟩) | (go_at_call 62; refine (cut_any _ _ _).mono ?_; rintro e w' ⟨rfl, rfl⟩) | (go_at_call 63; refine (truncT_any _ _).mono ?_; rintro e w1 ⟨t, rfl, h1, hT⟩; obtain ⟨c1, f1⟩ := h1.cells) | (go_at_call 65; refine (double_any _ _ _).mono ?_; rintro e w' ⟨rfl, rfl⟩) | (go_at_call 66; refine (extend_any _ _ _).mono ?_; rintro e w' ⟨rfl, rfl⟩))
  all_goals (go_returns; go_light)
  all_goals first
    | exact ⟨t, ret_pair (by clear hT ht0; first | (simp [bits1L, *]; done) | simp_all [bits1L]), by assumption, hT⟩
    | exact ⟨t0, ret_pair (by clear ht0; first | (simp [bits1L, *]; done) | simp_all [bits1L]), Fresh.refl _, ht0⟩
def EvalT (o k n : Int) (w : World) (e : Ending) (w' : World) : Prop := ∃ t : Nat, e = .returned (.tuple #[.agg #[.int .i64 (eval1L o k n t).1.1, .int .u64 (eval1L o k n t).1.2.1, .int .i64 (eval1L o k n t).1.2.2], .bool (eval1L o k n t).2]) ∧ Fresh w w' ∧ TruncOf n.toNat t
theorem evalT_c (o k n b : Int) (ho : o = 95 ∨ o = 96) (w : World) :
    Calls Try.prog 13 #[.int .i64 o, .agg #[.int .i64 k, .int .u64 n, .int .i64 b]] w (EvalT o k n w) := by
  obtain ⟨t0, _, _, _, ht0⟩ := run_truncOf n.toNat w
  rcases ho with rfl | rfl
  all_goals
    go_enter Try.func13, Try.ntmps13
    go_wp2_with (first | (go_at_call 15; refine (truth_any _ _ _ _).mono ?_; rintro e w1 ⟨rfl, h1⟩; obtain ⟨c1, f1⟩ := h1.cells; have z1a := h1.z (n := w.heap.size) (by first | assumption | (simp; done) | (simp; assumption) | (simp; omega)); have z1b := h1.z (n := w.heap.size + 1) (by first | assumption | (simp; done) | (simp; assumption) | (simp; omega))) | (go_at_call 46; refine (flag64_any _ _).mono ?_; rintro e w' ⟨rfl, rfl⟩) | (go_at_call 35; refine (answer_any _ _ _ _).mono ?_; rintro e w2 ⟨rfl, h2⟩; obtain ⟨c2, f2⟩ := h2.cells; have z2a := h2.z (n := w.heap.size) (by first | assumption | (simp; done) | (simp; assumption) | (simp; omega)); have z2b := h2.z (n := w.heap.size + 1) (by first | assumption | (simp; done) | (simp; assumption) | (simp; omega))))
    all_goals go_light
    all_goals first | (refine bodyPost_ret (v := ?_) ?_ rfl ?_; rotate_left 1; focus (simp [results, Try.results13, go_sem, *]; (try rfl); done)) | go_returns
    all_goals exact ⟨t0, ret_valok (by clear ht0; simp [eval1L]), by (repeat' first | with_reducible exact Fresh.refl _ | with_reducible assumption | with_reducible refine Fresh.alloc ?_ _ _ | with_reducible refine Fresh.drew ?_ | with_reducible refine Fresh.setCell ?_ ?_ _ | with_reducible refine Fresh.trans ?_ (by assumption) | (simp; done) | (simp; omega)), ht0⟩
theorem evalT_z (o k n b : Int) (h5 : (o == 95) = false) (h6 : (o == 96) = false) (h0 : ((shapeL o).1 == 0) = true) (w : World) :
    Calls Try.prog 13 #[.int .i64 o, .agg #[.int .i64 k, .int .u64 n, .int .i64 b]] w (EvalT o k n w) := by
  obtain ⟨t0, _, _, _, ht0⟩ := run_truncOf n.toNat w
  go_enter Try.func13, Try.ntmps13
  go_wp2_with (first | (go_at_call 20; refine (shape_any _ _).mono ?_; rintro e w' ⟨rfl, rfl⟩))
  all_goals go_light
  all_goals first | (refine bodyPost_ret (v := ?_) ?_ rfl ?_; rotate_left 1; focus (simp [results, Try.results13, go_sem, *]; (try rfl); done)) | go_returns
  all_goals exact ⟨t0, ret_valok (by clear ht0; simp [eval1L, noneL, *]), by (repeat' first | with_reducible exact Fresh.refl _ | with_reducible assumption | with_reducible refine Fresh.alloc ?_ _ _ | with_reducible refine Fresh.drew ?_ | with_reducible refine Fresh.setCell ?_ ?_ _ | with_reducible refine Fresh.trans ?_ (by assumption) | (simp; done) | (simp; omega)), ht0⟩
theorem evalT_s (o k n b : Int) (h5 : (o == 95) = false) (h6 : (o == 96) = false) (h0 : ((shapeL o).1 == 0) = false) (h1 : ((shapeL o).2.1 != 0) = true) (w : World) :
    Calls Try.prog 13 #[.int .i64 o, .agg #[.int .i64 k, .int .u64 n, .int .i64 b]] w (EvalT o k n w) := by
  obtain ⟨t0, _, _, _, ht0⟩ := run_truncOf n.toNat w
  go_enter Try.func13, Try.ntmps13
  go_wp2_with (first | (go_at_call 20; refine (shape_any _ _).mono ?_; rintro e w' ⟨rfl, rfl⟩))
  all_goals go_light
  all_goals first | (refine bodyPost_ret (v := ?_) ?_ rfl ?_; rotate_left 1; focus (simp [results, Try.results13, go_sem, *]; (try rfl); done)) | go_returns
  all_goals exact ⟨t0, ret_valok (by clear ht0; simp [eval1L, noneL, *]), by (repeat' first | with_reducible exact Fresh.refl _ | with_reducible assumption | with_reducible refine Fresh.alloc ?_ _ _ | with_reducible refine Fresh.drew ?_ | with_reducible refine Fresh.setCell ?_ ?_ _ | with_reducible refine Fresh.trans ?_ (by assumption) | (simp; done) | (simp; omega)), ht0⟩
theorem evalT_k (o k n b : Int) (h5 : (o == 95) = false) (h6 : (o == 96) = false) (h0 : ((shapeL o).1 == 0) = false) (h1 : ((shapeL o).2.1 != 0) = false) (hk : (k != (shapeL o).1) = true) (w : World) :
    Calls Try.prog 13 #[.int .i64 o, .agg #[.int .i64 k, .int .u64 n, .int .i64 b]] w (EvalT o k n w) := by
  obtain ⟨t0, _, _, _, ht0⟩ := run_truncOf n.toNat w
  go_enter Try.func13, Try.ntmps13
  go_wp2_with (first | (go_at_call 20; refine (shape_any _ _).mono ?_; rintro e w' ⟨rfl, rfl⟩))
  all_goals go_light
  all_goals first | (refine bodyPost_ret (v := ?_) ?_ rfl ?_; rotate_left 1; focus (simp [results, Try.results13, go_sem, *]; (try rfl); done)) | go_returns
  all_goals exact ⟨t0, ret_valok (by clear ht0; simp [eval1L, noneL, *]), by (repeat' first | with_reducible exact Fresh.refl _ | with_reducible assumption | with_reducible refine Fresh.alloc ?_ _ _ | with_reducible refine Fresh.drew ?_ | with_reducible refine Fresh.setCell ?_ ?_ _ | with_reducible refine Fresh.trans ?_ (by assumption) | (simp; done) | (simp; omega)), ht0⟩
theorem evalT_b (o k n b : Int) (h5 : (o == 95) = false) (h6 : (o == 96) = false) (h0 : ((shapeL o).1 == 0) = false) (h1 : ((shapeL o).2.1 != 0) = false) (hk : (k != (shapeL o).1) = false) (ha : 1 ≤ o) (hb : o ≤ 96) (w : World) :
    Calls Try.prog 13 #[.int .i64 o, .agg #[.int .i64 k, .int .u64 n, .int .i64 b]] w (EvalT o k n w) := by
  obtain ⟨t0, _, _, _, ht0⟩ := run_truncOf n.toNat w
  go_enter Try.func13, Try.ntmps13
  go_wp2_with (first | (go_at_call 20; refine (shape_any _ _).mono ?_; rintro e w' ⟨rfl, rfl⟩) | (go_at_call 47; refine (bitsT_any _ _ ha hb _).mono ?_; rintro e w1 ⟨t, rfl, h1, hT⟩; obtain ⟨c1, f1⟩ := h1.cells; have z1a := h1.z (n := w.heap.size) (by first | assumption | (simp; done) | (simp; assumption) | (simp; omega)); have z1b := h1.z (n := w.heap.size + 1) (by first | assumption | (simp; done) | (simp; assumption) | (simp; omega))) | (go_at_call 35; refine (answer_any _ _ _ _).mono ?_; rintro e w2 ⟨rfl, h2⟩; obtain ⟨c2, f2⟩ := h2.cells; have z2a := h2.z (n := w.heap.size) (by first | assumption | (simp; done) | (simp; assumption) | (simp; omega)); have z2b := h2.z (n := w.heap.size + 1) (by first | assumption | (simp; done) | (simp; assumption) | (simp; omega))))
  all_goals go_light
  all_goals first | (refine bodyPost_ret (v := ?_) ?_ rfl ?_; rotate_left 1; focus (simp [results, Try.results13, go_sem, *]; (try rfl); done)) | go_returns
  all_goals exact ⟨t, ret_valok (by clear ht0 hT; simp [eval1L, *]), by (repeat' first | with_reducible exact Fresh.refl _ | with_reducible assumption | with_reducible refine Fresh.alloc ?_ _ _ | with_reducible refine Fresh.drew ?_ | with_reducible refine Fresh.setCell ?_ ?_ _ | with_reducible refine Fresh.trans ?_ (by assumption) | (simp; done) | (simp; omega)), hT⟩
theorem evalT_any (o k n b : Int) (w : World) :
    Calls Try.prog 13 #[.int .i64 o, .agg #[.int .i64 k, .int .u64 n, .int .i64 b]] w (EvalT o k n w) := by
  by_cases ho : o = 95 ∨ o = 96
  · exact evalT_c o k n b ho w
  have h5 : (o == 95) = false := by simp; omega
  have h6 : (o == 96) = false := by simp; omega
  cases h0 : (shapeL o).1 == 0
  · cases h1 : (shapeL o).2.1 != 0
    · cases hk : k != (shapeL o).1
      · exact evalT_b o k n b h5 h6 h0 h1 hk (shape_one o h0).1 (shape_one o h0).2 w
      · exact evalT_k o k n b h5 h6 h0 h1 hk w
    · exact evalT_s o k n b h5 h6 h0 h1 w
  · exact evalT_z o k n b h5 h6 h0 w
end Go.Proofs.Ytopnbdblgfjnpaa
