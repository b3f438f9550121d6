/- The shapes of the operations, as mach and as the document's own answers tell them: they are the same. -/
import Derived.Test.YteiomcbphbbpkaaGreatDoorYb
namespace Go.Proofs.YteiomcbphbbpkaaGreatDoor.mach
set_option linter.unusedSimpArgs false
set_option linter.unusedVariables false
open Go.RowKit

theorem ret_three {a b c : Int} {p : Int × Int × Int} (h : p = (a, b, c)) : Ending.returned (.tuple #[.int .i64 a, .int .i64 b, .int .i64 c]) = Ending.returned (.tuple #[.int .i64 p.1, .int .i64 p.2.1, .int .i64 p.2.2]) := by rw [h]
theorem ret_two {a b : Int} {p : Int × Int} (h : p = (a, b)) : Ending.returned (.tuple #[.int .i64 a, .int .i64 b]) = Ending.returned (.tuple #[.int .i64 p.1, .int .i64 p.2]) := by rw [h]

def wholeShapeL (o k : Int) : Int × Int × Int :=
  if o = 1 ∨ o = 2 then (k, 0, k) else if isShiftL o then (k, 1, k) else if 16 ≤ o then (k, k, 1) else (k, k, k)
def turnShapeL (o : Int) : Int × Int :=
  if o == 80 || o == 81 || o == 82 || o == 83 || o == 95 || o == 96 then (1, 1) else if o == 84 || o == 85 then (1, 2) else if o == 86 then (2, 1) else if o == 87 || o == 88 then (1, 3) else if o == 89 || o == 90 then (2, 3) else if o == 91 || o == 92 then (3, 1) else if o == 93 || o == 94 then (3, 2) else (0, 0)
def shapeL (o : Int) : Int × Int × Int :=
  if 1 ≤ o ∧ o ≤ 25 then wholeShapeL o 1 else if 31 ≤ o ∧ o ≤ 55 then wholeShapeL (o - 30) 2 else if o = 61 then (3, 0, 3) else if 62 ≤ o ∧ o ≤ 65 then (3, 3, 3) else if 66 ≤ o ∧ o ≤ 71 then (3, 3, 1) else ((turnShapeL o).1, 0, (turnShapeL o).2)

theorem wholeShape_any (o k : Int) (w : World) :
    Calls Tryz.prog 73 #[.int .i64 o, .int .i64 k] w fun e w' => e = .returned (.tuple #[.int .i64 (wholeShapeL o k).1, .int .i64 (wholeShapeL o k).2.1, .int .i64 (wholeShapeL o k).2.2]) ∧ w = w' := by
  go_enter Tryz.func73, Tryz.ntmps73
  go_wp2_with (go_at_call 88; refine (isShift_any _ _).mono ?_; rintro e w' ⟨rfl, rfl⟩)
  all_goals (go_returns; go_light)
  all_goals (refine ⟨ret_three ?_, rfl⟩; (try simp only [beq_iff_eq, beq_eq_false_iff_ne] at *); unfold wholeShapeL; repeat' split)
  all_goals first | rfl | omega | simp_all
theorem turnShape_any (o : Int) (w : World) :
    Calls Tryz.prog 74 #[.int .i64 o] w fun e w' => e = .returned (.tuple #[.int .i64 (turnShapeL o).1, .int .i64 (turnShapeL o).2]) ∧ w = w' := by
  go_enter Tryz.func74, Tryz.ntmps74
  go_wp2
  all_goals (go_returns; go_light)
  all_goals exact ⟨ret_two (by simp [turnShapeL, *]), rfl⟩
theorem shape_any (o : Int) (w : World) :
    Calls Tryz.prog 52 #[.int .i64 o] w fun e w' => e = .returned (.tuple #[.int .i64 (shapeL o).1, .int .i64 (shapeL o).2.1, .int .i64 (shapeL o).2.2]) ∧ w = w' := by
  go_enter Tryz.func52, Tryz.ntmps52
  go_wp2_with (first | (go_at_call 73; refine (wholeShape_any _ _ _).mono ?_; rintro e w' ⟨rfl, rfl⟩) | (go_at_call 74; refine (turnShape_any _ _).mono ?_; rintro e w' ⟨rfl, rfl⟩))
  all_goals (go_returns; go_light)
  all_goals (refine ⟨ret_three ?_, rfl⟩; (try simp only [beq_iff_eq, beq_eq_false_iff_ne] at *); unfold shapeL; repeat' split)
  all_goals first | rfl | omega | skip
  all_goals (trace_state; omega)
theorem isShiftL_eq (o : Int) : isShiftL o = decide (o = 13 ∨ o = 14 ∨ o = 15) := by simp [isShiftL, Bool.decide_or, BEq.beq, Bool.or_assoc]
theorem shapeL_r3 (o : Int) (h1 : 3 ≤ o) (h2 : o ≤ 12) : shapeL o = (1, 1, 1) := by
  unfold shapeL wholeShapeL turnShapeL
  simp (disch := omega) only [isShiftL_eq, Bool.or_eq_true, beq_iff_eq, decide_eq_true_eq, if_pos, if_neg]
theorem shapeL_r13 (o : Int) (h1 : 13 ≤ o) (h2 : o ≤ 15) : shapeL o = (1, 1, 1) := by
  unfold shapeL wholeShapeL turnShapeL
  simp (disch := omega) only [isShiftL_eq, Bool.or_eq_true, beq_iff_eq, decide_eq_true_eq, if_pos, if_neg]
theorem shapeL_r16 (o : Int) (h1 : 16 ≤ o) (h2 : o ≤ 25) : shapeL o = (1, 1, 1) := by
  unfold shapeL wholeShapeL turnShapeL
  simp (disch := omega) only [isShiftL_eq, Bool.or_eq_true, beq_iff_eq, decide_eq_true_eq, if_pos, if_neg]
theorem shapeL_r33 (o : Int) (h1 : 33 ≤ o) (h2 : o ≤ 42) : shapeL o = (2, 2, 2) := by
  unfold shapeL wholeShapeL turnShapeL
  simp (disch := omega) only [isShiftL_eq, Bool.or_eq_true, beq_iff_eq, decide_eq_true_eq, if_pos, if_neg]
theorem shapeL_r43 (o : Int) (h1 : 43 ≤ o) (h2 : o ≤ 45) : shapeL o = (2, 1, 2) := by
  unfold shapeL wholeShapeL turnShapeL
  simp (disch := omega) only [isShiftL_eq, Bool.or_eq_true, beq_iff_eq, decide_eq_true_eq, if_pos, if_neg]
theorem shapeL_r46 (o : Int) (h1 : 46 ≤ o) (h2 : o ≤ 55) : shapeL o = (2, 2, 1) := by
  unfold shapeL wholeShapeL turnShapeL
  simp (disch := omega) only [isShiftL_eq, Bool.or_eq_true, beq_iff_eq, decide_eq_true_eq, if_pos, if_neg]
theorem shapeL_r62 (o : Int) (h1 : 62 ≤ o) (h2 : o ≤ 65) : shapeL o = (3, 3, 3) := by
  unfold shapeL wholeShapeL turnShapeL
  simp (disch := omega) only [isShiftL_eq, Bool.or_eq_true, beq_iff_eq, decide_eq_true_eq, if_pos, if_neg]
theorem shapeL_r66 (o : Int) (h1 : 66 ≤ o) (h2 : o ≤ 71) : shapeL o = (3, 3, 1) := by
  unfold shapeL wholeShapeL turnShapeL
  simp (disch := omega) only [isShiftL_eq, Bool.or_eq_true, beq_iff_eq, decide_eq_true_eq, if_pos, if_neg]
theorem shapeL_r80 (o : Int) (h1 : 80 ≤ o) (h2 : o ≤ 83) : shapeL o = (1, 0, 1) := by
  unfold shapeL wholeShapeL turnShapeL
  simp (disch := omega) only [isShiftL_eq, Bool.or_eq_true, beq_iff_eq, decide_eq_true_eq, if_pos, if_neg]
theorem shapeL_r26 (o : Int) (h1 : 26 ≤ o) (h2 : o ≤ 30) : shapeL o = (0, 0, 0) := by
  unfold shapeL wholeShapeL turnShapeL
  simp (disch := omega) only [isShiftL_eq, Bool.or_eq_true, beq_iff_eq, decide_eq_true_eq, if_pos, if_neg]
theorem shapeL_r56 (o : Int) (h1 : 56 ≤ o) (h2 : o ≤ 60) : shapeL o = (0, 0, 0) := by
  unfold shapeL wholeShapeL turnShapeL
  simp (disch := omega) only [isShiftL_eq, Bool.or_eq_true, beq_iff_eq, decide_eq_true_eq, if_pos, if_neg]
theorem shapeL_r72 (o : Int) (h1 : 72 ≤ o) (h2 : o ≤ 79) : shapeL o = (0, 0, 0) := by
  unfold shapeL wholeShapeL turnShapeL
  simp (disch := omega) only [isShiftL_eq, Bool.or_eq_true, beq_iff_eq, decide_eq_true_eq, if_pos, if_neg]
theorem shapeL_lo (o : Int) (h1 : o < 1) : shapeL o = (0, 0, 0) := by
  unfold shapeL wholeShapeL turnShapeL
  simp (disch := omega) only [isShiftL_eq, Bool.or_eq_true, beq_iff_eq, decide_eq_true_eq, if_pos, if_neg]
theorem shapeL_hi (o : Int) (h1 : 96 < o) : shapeL o = (0, 0, 0) := by
  unfold shapeL wholeShapeL turnShapeL
  simp (disch := omega) only [isShiftL_eq, Bool.or_eq_true, beq_iff_eq, decide_eq_true_eq, if_pos, if_neg]
end Go.Proofs.YteiomcbphbbpkaaGreatDoor.mach
