/- What mach's Truth, Right and Eval1 answer, of any value. -/
import Derived.Test.YteiomcbphbbpkaaGreatDoorYm
namespace Go.Proofs.YteiomcbphbbpkaaGreatDoor.mach
set_option linter.unusedSimpArgs false
set_option linter.unusedVariables false
open Go.RowKit
set_option maxRecDepth 100000
attribute [local go_sem ↓] run_f64bits run_f64from

def noneL : (Int × Int × Int) × Bool := ((0, 0, 0), false)
theorem ret_bools {a c : Bool} {p : Bool × Bool} (h : p = (a, c)) : Ending.returned (.tuple #[.bool a, .bool c]) = Ending.returned (.tuple #[.bool p.1, .bool p.2]) := by rw [h]
def truthL (k n : Int) : Bool × Bool :=
  if k == 1 then (n % 4294967296 != 0, true) else if k == 2 then (n != 0, true) else if k == 3 then (bits BinOp.andNot IntKind.u64 n 9223372036854775808 != 0, true) else if k == 4 then (true, true) else (false, false)
theorem truth_any (k n b : Int) (w : World) :
    Calls Tryz.prog 49 #[.agg #[.int .i64 k, .int .u64 n, .int .i64 b]] w fun e w' => e = .returned (.tuple #[.bool (truthL k n).1, .bool (truthL k n).2]) ∧ Fresh w w' := by
  go_enter Tryz.func49, Tryz.ntmps49
  go_wp2
  all_goals (go_returns; go_light)
  all_goals exact ⟨ret_bools (by simp [truthL, *]), (Fresh.refl _).alloc _ _⟩
def rightL (k n b : Int) : Bool :=
  if k == 0 then k == 0 && n == 0 && b == 0 else if k == 1 then decide (n < 4294967296) && b == 0 else if k == 2 || k == 3 then b == 0 else if k == 4 then b != 0 else false
def bits1L (o x : Int) (t : Nat) : Int × Bool :=
  if o == 1 || o == 2 then (IntKind.u64.wrap (turn32 o (x % 4294967296)), true) else if o == 31 || o == 32 then (turn64 (o - 30) x, true)
  else if o == 61 then (bits BinOp.xor IntKind.u64 x 9223372036854775808, true) else if o == 91 || o == 92 || o == 93 || o == 94 then cutL o t
  else if o == 87 || o == 88 || o == 89 || o == 90 then ((doubleL o x : Int), true) else (extendL o x, true)
def Bits1 (o x : Int) (w : World) (e : Ending) (w' : World) : Prop := ∃ t : Nat, e = .returned (.tuple #[.int .u64 (bits1L o x t).1, .bool (bits1L o x t).2]) ∧ Fresh w w'
set_option maxHeartbeats 2000000 in
theorem bits1_any (o x : Int) (h1 : 1 ≤ o) (h2 : o ≤ 96) (w : World) :
    Calls Tryz.prog 53 #[.int .i64 o, .int .u64 x] w (Bits1 o x w) := by
  go_enter Tryz.func53, Tryz.ntmps53
  go_wp2_with (first | (go_at_call 75; refine (turn32_any _ _ _).mono ?_; rintro e w' ⟨rfl, rfl⟩) | (go_at_call 76; refine (turn64_any _ _ _).mono ?_; rintro e w' ⟨rfl, rfl⟩) | (go_at_call 77; refine (cut_any _ _ _).mono ?_; rintro e w' ⟨rfl, rfl⟩) | (go_at_call 78; refine (trunc_any _ _).mono ?_; rintro e w1 ⟨t, rfl, h1⟩; obtain ⟨c1, f1⟩ := h1.cells) | (go_at_call 81; refine (double_any _ _ _).mono ?_; rintro e w' ⟨rfl, rfl⟩) | (go_at_call 82; refine (extend_any _ _ _).mono ?_; rintro e w' ⟨rfl, rfl⟩))
  all_goals (go_returns; go_light)
  all_goals first
    | exact ⟨t, ret_pair (by first | (simp [bits1L, *]; done) | simp_all [bits1L]), by assumption⟩
    | exact ⟨0, ret_pair (by first | (simp [bits1L, *]; done) | simp_all [bits1L]), Fresh.refl _⟩
theorem shape_one (o : Int) (h : ((shapeL o).1 == 0) = false) : 1 ≤ o ∧ o ≤ 96 := by
  have h' : (shapeL o).1 ≠ 0 := by simpa using h
  by_cases a : o < 1
  · rw [shapeL_lo o a] at h'; exact absurd rfl h'
  by_cases b : 96 < o
  · rw [shapeL_hi o b] at h'; exact absurd rfl h'
  · omega
def eval1L (o k n : Int) (t : Nat) : (Int × Int × Int) × Bool :=
  if o == 95 || o == 96 then answerL 1 (flagL ((truthL k n).1 == (o == 95))) (truthL k n).2
  else if (shapeL o).1 == 0 || (shapeL o).2.1 != 0 || k != (shapeL o).1 then noneL
  else answerL (shapeL o).2.2 (bits1L o n t).1 (bits1L o n t).2
def Eval1 (o k n : Int) (w : World) (e : Ending) (w' : World) : Prop := ∃ t : Nat, e = .returned (.tuple #[.agg #[.int .i64 (eval1L o k n t).1.1, .int .u64 (eval1L o k n t).1.2.1, .int .i64 (eval1L o k n t).1.2.2], .bool (eval1L o k n t).2]) ∧ Fresh w w'
theorem eval1_c (o k n b : Int) (ho : o = 95 ∨ o = 96) (w : World) :
    Calls Tryz.prog 27 #[.int .i64 o, .agg #[.int .i64 k, .int .u64 n, .int .i64 b]] w (Eval1 o k n w) := by
  rcases ho with rfl | rfl
  all_goals
    go_enter Tryz.func27, Tryz.ntmps27
    go_wp2_with (first | (go_at_call 49; refine (truth_any _ _ _ _).mono ?_; rintro e w1 ⟨rfl, h1⟩; obtain ⟨c1, f1⟩ := h1.cells; have z1a := h1.z (n := w.heap.size) (by first | assumption | (simp; done) | (simp; assumption) | (simp; omega)); have z1b := h1.z (n := w.heap.size + 1) (by first | assumption | (simp; done) | (simp; assumption) | (simp; omega))) | (go_at_call 51; refine (flag64_any _ _).mono ?_; rintro e w' ⟨rfl, rfl⟩) | (go_at_call 50; refine (answer_any _ _ _ _).mono ?_; rintro e w2 ⟨rfl, h2⟩; obtain ⟨c2, f2⟩ := h2.cells; have z2a := h2.z (n := w.heap.size) (by first | assumption | (simp; done) | (simp; assumption) | (simp; omega)); have z2b := h2.z (n := w.heap.size + 1) (by first | assumption | (simp; done) | (simp; assumption) | (simp; omega))))
    all_goals go_light
    all_goals first | (refine bodyPost_ret (v := ?_) ?_ rfl ?_; rotate_left 1; focus (simp [results, Tryz.results27, go_sem, *]; (try rfl); done)) | go_returns
    all_goals exact ⟨0, ret_valok (by simp [eval1L]), by (repeat' first | with_reducible exact Fresh.refl _ | with_reducible assumption | with_reducible refine Fresh.alloc ?_ _ _ | with_reducible refine Fresh.drew ?_ | with_reducible refine Fresh.setCell ?_ ?_ _ | with_reducible refine Fresh.trans ?_ (by assumption) | (simp; done) | (simp; omega))⟩
theorem eval1_z (o k n b : Int) (h5 : (o == 95) = false) (h6 : (o == 96) = false) (h0 : ((shapeL o).1 == 0) = true) (w : World) :
    Calls Tryz.prog 27 #[.int .i64 o, .agg #[.int .i64 k, .int .u64 n, .int .i64 b]] w (Eval1 o k n w) := by
  go_enter Tryz.func27, Tryz.ntmps27
  go_wp2_with (first | (go_at_call 52; refine (shape_any _ _).mono ?_; rintro e w' ⟨rfl, rfl⟩))
  all_goals go_light
  all_goals first | (refine bodyPost_ret (v := ?_) ?_ rfl ?_; rotate_left 1; focus (simp [results, Tryz.results27, go_sem, *]; (try rfl); done)) | go_returns
  all_goals exact ⟨0, ret_valok (by simp [eval1L, noneL, *]), by (repeat' first | with_reducible exact Fresh.refl _ | with_reducible assumption | with_reducible refine Fresh.alloc ?_ _ _ | with_reducible refine Fresh.drew ?_ | with_reducible refine Fresh.setCell ?_ ?_ _ | with_reducible refine Fresh.trans ?_ (by assumption) | (simp; done) | (simp; omega))⟩
theorem eval1_s (o k n b : Int) (h5 : (o == 95) = false) (h6 : (o == 96) = false) (h0 : ((shapeL o).1 == 0) = false) (h1 : ((shapeL o).2.1 != 0) = true) (w : World) :
    Calls Tryz.prog 27 #[.int .i64 o, .agg #[.int .i64 k, .int .u64 n, .int .i64 b]] w (Eval1 o k n w) := by
  go_enter Tryz.func27, Tryz.ntmps27
  go_wp2_with (first | (go_at_call 52; refine (shape_any _ _).mono ?_; rintro e w' ⟨rfl, rfl⟩))
  all_goals go_light
  all_goals first | (refine bodyPost_ret (v := ?_) ?_ rfl ?_; rotate_left 1; focus (simp [results, Tryz.results27, go_sem, *]; (try rfl); done)) | go_returns
  all_goals exact ⟨0, ret_valok (by simp [eval1L, noneL, *]), by (repeat' first | with_reducible exact Fresh.refl _ | with_reducible assumption | with_reducible refine Fresh.alloc ?_ _ _ | with_reducible refine Fresh.drew ?_ | with_reducible refine Fresh.setCell ?_ ?_ _ | with_reducible refine Fresh.trans ?_ (by assumption) | (simp; done) | (simp; omega))⟩
theorem eval1_k (o k n b : Int) (h5 : (o == 95) = false) (h6 : (o == 96) = false) (h0 : ((shapeL o).1 == 0) = false) (h1 : ((shapeL o).2.1 != 0) = false) (hk : (k != (shapeL o).1) = true) (w : World) :
    Calls Tryz.prog 27 #[.int .i64 o, .agg #[.int .i64 k, .int .u64 n, .int .i64 b]] w (Eval1 o k n w) := by
  go_enter Tryz.func27, Tryz.ntmps27
  go_wp2_with (first | (go_at_call 52; refine (shape_any _ _).mono ?_; rintro e w' ⟨rfl, rfl⟩))
  all_goals go_light
  all_goals first | (refine bodyPost_ret (v := ?_) ?_ rfl ?_; rotate_left 1; focus (simp [results, Tryz.results27, go_sem, *]; (try rfl); done)) | go_returns
  all_goals exact ⟨0, ret_valok (by simp [eval1L, noneL, *]), by (repeat' first | with_reducible exact Fresh.refl _ | with_reducible assumption | with_reducible refine Fresh.alloc ?_ _ _ | with_reducible refine Fresh.drew ?_ | with_reducible refine Fresh.setCell ?_ ?_ _ | with_reducible refine Fresh.trans ?_ (by assumption) | (simp; done) | (simp; omega))⟩
theorem eval1_b (o k n b : Int) (h5 : (o == 95) = false) (h6 : (o == 96) = false) (h0 : ((shapeL o).1 == 0) = false) (h1 : ((shapeL o).2.1 != 0) = false) (hk : (k != (shapeL o).1) = false) (ha : 1 ≤ o) (hb : o ≤ 96) (w : World) :
    Calls Tryz.prog 27 #[.int .i64 o, .agg #[.int .i64 k, .int .u64 n, .int .i64 b]] w (Eval1 o k n w) := by
  go_enter Tryz.func27, Tryz.ntmps27
  go_wp2_with (first | (go_at_call 52; refine (shape_any _ _).mono ?_; rintro e w' ⟨rfl, rfl⟩) | (go_at_call 53; refine (bits1_any _ _ ha hb _).mono ?_; rintro e w1 ⟨t, rfl, h1⟩; obtain ⟨c1, f1⟩ := h1.cells; have z1a := h1.z (n := w.heap.size) (by first | assumption | (simp; done) | (simp; assumption) | (simp; omega)); have z1b := h1.z (n := w.heap.size + 1) (by first | assumption | (simp; done) | (simp; assumption) | (simp; omega))) | (go_at_call 50; refine (answer_any _ _ _ _).mono ?_; rintro e w2 ⟨rfl, h2⟩; obtain ⟨c2, f2⟩ := h2.cells; have z2a := h2.z (n := w.heap.size) (by first | assumption | (simp; done) | (simp; assumption) | (simp; omega)); have z2b := h2.z (n := w.heap.size + 1) (by first | assumption | (simp; done) | (simp; assumption) | (simp; omega))))
  all_goals go_light
  all_goals first | (refine bodyPost_ret (v := ?_) ?_ rfl ?_; rotate_left 1; focus (simp [results, Tryz.results27, go_sem, *]; (try rfl); done)) | go_returns
  all_goals exact ⟨t, ret_valok (by simp [eval1L, *]), by (repeat' first | with_reducible exact Fresh.refl _ | with_reducible assumption | with_reducible refine Fresh.alloc ?_ _ _ | with_reducible refine Fresh.drew ?_ | with_reducible refine Fresh.setCell ?_ ?_ _ | with_reducible refine Fresh.trans ?_ (by assumption) | (simp; done) | (simp; omega))⟩
theorem eval1_any (o k n b : Int) (w : World) :
    Calls Tryz.prog 27 #[.int .i64 o, .agg #[.int .i64 k, .int .u64 n, .int .i64 b]] w (Eval1 o k n w) := by
  by_cases ho : o = 95 ∨ o = 96
  · exact eval1_c o k n b ho w
  have h5 : (o == 95) = false := by simp; omega
  have h6 : (o == 96) = false := by simp; omega
  cases h0 : (shapeL o).1 == 0
  · cases h1 : (shapeL o).2.1 != 0
    · cases hk : k != (shapeL o).1
      · exact eval1_b o k n b h5 h6 h0 h1 hk (shape_one o h0).1 (shape_one o h0).2 w
      · exact eval1_k o k n b h5 h6 h0 h1 hk w
    · exact eval1_s o k n b h5 h6 h0 h1 w
  · exact eval1_z o k n b h5 h6 h0 w
end Go.Proofs.YteiomcbphbbpkaaGreatDoor.mach
