/- The shapes of the operations, as mach and as the document's own answers tell them: they are the same. -/
import Derived.Test.YtopnbdblgfjnpaaB
namespace Go.Proofs.Ytopnbdblgfjnpaa
set_option linter.unusedSimpArgs false
set_option linter.unusedVariables false
open Go.RowKit

theorem ret_three {a b c : Int} {p : Int × Int × Int} (h : p = (a, b, c)) : Ending.returned (.tuple #[.int .i64 a, .int .i64 b, .int .i64 c]) = Ending.returned (.tuple #[.int .i64 p.1, .int .i64 p.2.1, .int .i64 p.2.2]) := by rw [h]
theorem ret_two {a b : Int} {p : Int × Int} (h : p = (a, b)) : Ending.returned (.tuple #[.int .i64 a, .int .i64 b]) = Ending.returned (.tuple #[.int .i64 p.1, .int .i64 p.2]) := by rw [h]

def wholeShapeL (o k : Int) : Int × Int × Int :=
  if o = 1 ∨ o = 2 then (k, 0, k) else if isShiftL o then (k, 1, k) else if 16 ≤ o then (k, k, 1) else (k, k, k)
def turnShapeL (o : Int) : Int × Int :=
  if o == 80 || o == 81 || o == 82 || o == 83 || o == 95 || o == 96 then (1, 1) else if o == 84 || o == 85 then (1, 2) else if o == 86 then (2, 1) else if o == 87 || o == 88 then (1, 3) else if o == 89 || o == 90 then (2, 3) else if o == 91 || o == 92 then (3, 1) else if o == 93 || o == 94 then (3, 2) else (0, 0)
def shapeL (o : Int) : Int × Int × Int :=
  if 1 ≤ o ∧ o ≤ 25 then wholeShapeL o 1 else if 31 ≤ o ∧ o ≤ 55 then wholeShapeL (o - 30) 2 else if o = 61 then (3, 0, 3) else if 62 ≤ o ∧ o ≤ 65 then (3, 3, 3) else if 66 ≤ o ∧ o ≤ 71 then (3, 3, 1) else ((turnShapeL o).1, 0, (turnShapeL o).2)

theorem wholeShape_any (o k : Int) (w : World) :
    Calls Try.prog 50 #[.int .i64 o, .int .i64 k] w fun e w' => e = .returned (.tuple #[.int .i64 (wholeShapeL o k).1, .int .i64 (wholeShapeL o k).2.1, .int .i64 (wholeShapeL o k).2.2]) ∧ w = w' := by
  go_enter Try.func50, Try.ntmps50
  go_wp2_with (go_at_call 57; refine (isShift_any _ _).mono ?_; rintro e w' ⟨rfl, rfl⟩)
  all_goals (go_returns; go_light)
  all_goals (refine ⟨ret_three ?_, rfl⟩; (try simp only [beq_iff_eq, beq_eq_false_iff_ne] at *); unfold wholeShapeL; repeat' split)
  all_goals first | rfl | omega | simp_all
theorem turnShape_any (o : Int) (w : World) :
    Calls Try.prog 51 #[.int .i64 o] w fun e w' => e = .returned (.tuple #[.int .i64 (turnShapeL o).1, .int .i64 (turnShapeL o).2]) ∧ w = w' := by
  go_enter Try.func51, Try.ntmps51
  go_wp2
  all_goals (go_returns; go_light)
  all_goals exact ⟨ret_two (by simp [turnShapeL, *]), rfl⟩
theorem shape_any (o : Int) (w : World) :
    Calls Try.prog 20 #[.int .i64 o] w fun e w' => e = .returned (.tuple #[.int .i64 (shapeL o).1, .int .i64 (shapeL o).2.1, .int .i64 (shapeL o).2.2]) ∧ w = w' := by
  go_enter Try.func20, Try.ntmps20
  go_wp2_with (first | (go_at_call 50; refine (wholeShape_any _ _ _).mono ?_; rintro e w' ⟨rfl, rfl⟩) | (go_at_call 51; refine (turnShape_any _ _).mono ?_; rintro e w' ⟨rfl, rfl⟩))
  all_goals (go_returns; go_light)
  all_goals (refine ⟨ret_three ?_, rfl⟩; (try simp only [beq_iff_eq, beq_eq_false_iff_ne] at *); unfold shapeL; repeat' split)
  all_goals first | rfl | omega | skip
  all_goals (trace_state; omega)
theorem isShiftL_eq (o : Int) : isShiftL o = decide (o = 13 ∨ o = 14 ∨ o = 15) := by simp [isShiftL, Bool.decide_or, BEq.beq, Bool.or_assoc]
theorem shapeL_r3 (o : Int) (h1 : 3 ≤ o) (h2 : o ≤ 12) : shapeL o = (1, 1, 1) := by
  unfold shapeL wholeShapeL turnShapeL
  simp (disch := omega) only [isShiftL_eq, Bool.or_eq_true, beq_iff_eq, decide_eq_true_eq, if_pos, if_neg]
theorem shapeL_r13 (o : Int) (h1 : 13 ≤ o) (h2 : o ≤ 15) : shapeL o = (1, 1, 1) := by
  unfold shapeL wholeShapeL turnShapeL
  simp (disch := omega) only [isShiftL_eq, Bool.or_eq_true, beq_iff_eq, decide_eq_true_eq, if_pos, if_neg]
theorem shapeL_r16 (o : Int) (h1 : 16 ≤ o) (h2 : o ≤ 25) : shapeL o = (1, 1, 1) := by
  unfold shapeL wholeShapeL turnShapeL
  simp (disch := omega) only [isShiftL_eq, Bool.or_eq_true, beq_iff_eq, decide_eq_true_eq, if_pos, if_neg]
theorem shapeL_r33 (o : Int) (h1 : 33 ≤ o) (h2 : o ≤ 42) : shapeL o = (2, 2, 2) := by
  unfold shapeL wholeShapeL turnShapeL
  simp (disch := omega) only [isShiftL_eq, Bool.or_eq_true, beq_iff_eq, decide_eq_true_eq, if_pos, if_neg]
theorem shapeL_r43 (o : Int) (h1 : 43 ≤ o) (h2 : o ≤ 45) : shapeL o = (2, 1, 2) := by
  unfold shapeL wholeShapeL turnShapeL
  simp (disch := omega) only [isShiftL_eq, Bool.or_eq_true, beq_iff_eq, decide_eq_true_eq, if_pos, if_neg]
theorem shapeL_r46 (o : Int) (h1 : 46 ≤ o) (h2 : o ≤ 55) : shapeL o = (2, 2, 1) := by
  unfold shapeL wholeShapeL turnShapeL
  simp (disch := omega) only [isShiftL_eq, Bool.or_eq_true, beq_iff_eq, decide_eq_true_eq, if_pos, if_neg]
theorem shapeL_r62 (o : Int) (h1 : 62 ≤ o) (h2 : o ≤ 65) : shapeL o = (3, 3, 3) := by
  unfold shapeL wholeShapeL turnShapeL
  simp (disch := omega) only [isShiftL_eq, Bool.or_eq_true, beq_iff_eq, decide_eq_true_eq, if_pos, if_neg]
theorem shapeL_r66 (o : Int) (h1 : 66 ≤ o) (h2 : o ≤ 71) : shapeL o = (3, 3, 1) := by
  unfold shapeL wholeShapeL turnShapeL
  simp (disch := omega) only [isShiftL_eq, Bool.or_eq_true, beq_iff_eq, decide_eq_true_eq, if_pos, if_neg]
theorem shapeL_r80 (o : Int) (h1 : 80 ≤ o) (h2 : o ≤ 83) : shapeL o = (1, 0, 1) := by
  unfold shapeL wholeShapeL turnShapeL
  simp (disch := omega) only [isShiftL_eq, Bool.or_eq_true, beq_iff_eq, decide_eq_true_eq, if_pos, if_neg]
theorem shapeL_r26 (o : Int) (h1 : 26 ≤ o) (h2 : o ≤ 30) : shapeL o = (0, 0, 0) := by
  unfold shapeL wholeShapeL turnShapeL
  simp (disch := omega) only [isShiftL_eq, Bool.or_eq_true, beq_iff_eq, decide_eq_true_eq, if_pos, if_neg]
theorem shapeL_r56 (o : Int) (h1 : 56 ≤ o) (h2 : o ≤ 60) : shapeL o = (0, 0, 0) := by
  unfold shapeL wholeShapeL turnShapeL
  simp (disch := omega) only [isShiftL_eq, Bool.or_eq_true, beq_iff_eq, decide_eq_true_eq, if_pos, if_neg]
theorem shapeL_r72 (o : Int) (h1 : 72 ≤ o) (h2 : o ≤ 79) : shapeL o = (0, 0, 0) := by
  unfold shapeL wholeShapeL turnShapeL
  simp (disch := omega) only [isShiftL_eq, Bool.or_eq_true, beq_iff_eq, decide_eq_true_eq, if_pos, if_neg]
theorem shapeL_lo (o : Int) (h1 : o < 1) : shapeL o = (0, 0, 0) := by
  unfold shapeL wholeShapeL turnShapeL
  simp (disch := omega) only [isShiftL_eq, Bool.or_eq_true, beq_iff_eq, decide_eq_true_eq, if_pos, if_neg]
theorem shapeL_hi (o : Int) (h1 : 96 < o) : shapeL o = (0, 0, 0) := by
  unfold shapeL wholeShapeL turnShapeL
  simp (disch := omega) only [isShiftL_eq, Bool.or_eq_true, beq_iff_eq, decide_eq_true_eq, if_pos, if_neg]
set_option maxRecDepth 100000 in
set_option maxHeartbeats 4000000 in
theorem shapeR_c1  (w : World) :
    Calls Try.prog 21 #[.int .i64 1] w fun e w' => e = .returned (.tuple #[.int .i64 (shapeL 1).1, .int .i64 (shapeL 1).2.1, .int .i64 (shapeL 1).2.2]) ∧ w = w' := by
  go_enter Try.func21, Try.ntmps21
  go_wp2
  all_goals (go_returns; go_light)
  all_goals exact ⟨ret_three (by decide), rfl⟩
set_option maxRecDepth 100000 in
set_option maxHeartbeats 4000000 in
theorem shapeR_c2  (w : World) :
    Calls Try.prog 21 #[.int .i64 2] w fun e w' => e = .returned (.tuple #[.int .i64 (shapeL 2).1, .int .i64 (shapeL 2).2.1, .int .i64 (shapeL 2).2.2]) ∧ w = w' := by
  go_enter Try.func21, Try.ntmps21
  go_wp2
  all_goals (go_returns; go_light)
  all_goals exact ⟨ret_three (by decide), rfl⟩
set_option maxRecDepth 100000 in
set_option maxHeartbeats 4000000 in
theorem shapeR_c31  (w : World) :
    Calls Try.prog 21 #[.int .i64 31] w fun e w' => e = .returned (.tuple #[.int .i64 (shapeL 31).1, .int .i64 (shapeL 31).2.1, .int .i64 (shapeL 31).2.2]) ∧ w = w' := by
  go_enter Try.func21, Try.ntmps21
  go_wp2
  all_goals (go_returns; go_light)
  all_goals exact ⟨ret_three (by decide), rfl⟩
set_option maxRecDepth 100000 in
set_option maxHeartbeats 4000000 in
theorem shapeR_c32  (w : World) :
    Calls Try.prog 21 #[.int .i64 32] w fun e w' => e = .returned (.tuple #[.int .i64 (shapeL 32).1, .int .i64 (shapeL 32).2.1, .int .i64 (shapeL 32).2.2]) ∧ w = w' := by
  go_enter Try.func21, Try.ntmps21
  go_wp2
  all_goals (go_returns; go_light)
  all_goals exact ⟨ret_three (by decide), rfl⟩
set_option maxRecDepth 100000 in
set_option maxHeartbeats 4000000 in
theorem shapeR_c61  (w : World) :
    Calls Try.prog 21 #[.int .i64 61] w fun e w' => e = .returned (.tuple #[.int .i64 (shapeL 61).1, .int .i64 (shapeL 61).2.1, .int .i64 (shapeL 61).2.2]) ∧ w = w' := by
  go_enter Try.func21, Try.ntmps21
  go_wp2
  all_goals (go_returns; go_light)
  all_goals exact ⟨ret_three (by decide), rfl⟩
set_option maxRecDepth 100000 in
set_option maxHeartbeats 4000000 in
theorem shapeR_c84  (w : World) :
    Calls Try.prog 21 #[.int .i64 84] w fun e w' => e = .returned (.tuple #[.int .i64 (shapeL 84).1, .int .i64 (shapeL 84).2.1, .int .i64 (shapeL 84).2.2]) ∧ w = w' := by
  go_enter Try.func21, Try.ntmps21
  go_wp2
  all_goals (go_returns; go_light)
  all_goals exact ⟨ret_three (by decide), rfl⟩
set_option maxRecDepth 100000 in
set_option maxHeartbeats 4000000 in
theorem shapeR_c85  (w : World) :
    Calls Try.prog 21 #[.int .i64 85] w fun e w' => e = .returned (.tuple #[.int .i64 (shapeL 85).1, .int .i64 (shapeL 85).2.1, .int .i64 (shapeL 85).2.2]) ∧ w = w' := by
  go_enter Try.func21, Try.ntmps21
  go_wp2
  all_goals (go_returns; go_light)
  all_goals exact ⟨ret_three (by decide), rfl⟩
set_option maxRecDepth 100000 in
set_option maxHeartbeats 4000000 in
theorem shapeR_c86  (w : World) :
    Calls Try.prog 21 #[.int .i64 86] w fun e w' => e = .returned (.tuple #[.int .i64 (shapeL 86).1, .int .i64 (shapeL 86).2.1, .int .i64 (shapeL 86).2.2]) ∧ w = w' := by
  go_enter Try.func21, Try.ntmps21
  go_wp2
  all_goals (go_returns; go_light)
  all_goals exact ⟨ret_three (by decide), rfl⟩
set_option maxRecDepth 100000 in
set_option maxHeartbeats 4000000 in
theorem shapeR_c87  (w : World) :
    Calls Try.prog 21 #[.int .i64 87] w fun e w' => e = .returned (.tuple #[.int .i64 (shapeL 87).1, .int .i64 (shapeL 87).2.1, .int .i64 (shapeL 87).2.2]) ∧ w = w' := by
  go_enter Try.func21, Try.ntmps21
  go_wp2
  all_goals (go_returns; go_light)
  all_goals exact ⟨ret_three (by decide), rfl⟩
set_option maxRecDepth 100000 in
set_option maxHeartbeats 4000000 in
theorem shapeR_c88  (w : World) :
    Calls Try.prog 21 #[.int .i64 88] w fun e w' => e = .returned (.tuple #[.int .i64 (shapeL 88).1, .int .i64 (shapeL 88).2.1, .int .i64 (shapeL 88).2.2]) ∧ w = w' := by
  go_enter Try.func21, Try.ntmps21
  go_wp2
  all_goals (go_returns; go_light)
  all_goals exact ⟨ret_three (by decide), rfl⟩
set_option maxRecDepth 100000 in
set_option maxHeartbeats 4000000 in
theorem shapeR_c89  (w : World) :
    Calls Try.prog 21 #[.int .i64 89] w fun e w' => e = .returned (.tuple #[.int .i64 (shapeL 89).1, .int .i64 (shapeL 89).2.1, .int .i64 (shapeL 89).2.2]) ∧ w = w' := by
  go_enter Try.func21, Try.ntmps21
  go_wp2
  all_goals (go_returns; go_light)
  all_goals exact ⟨ret_three (by decide), rfl⟩
set_option maxRecDepth 100000 in
set_option maxHeartbeats 4000000 in
theorem shapeR_c90  (w : World) :
    Calls Try.prog 21 #[.int .i64 90] w fun e w' => e = .returned (.tuple #[.int .i64 (shapeL 90).1, .int .i64 (shapeL 90).2.1, .int .i64 (shapeL 90).2.2]) ∧ w = w' := by
  go_enter Try.func21, Try.ntmps21
  go_wp2
  all_goals (go_returns; go_light)
  all_goals exact ⟨ret_three (by decide), rfl⟩
set_option maxRecDepth 100000 in
set_option maxHeartbeats 4000000 in
theorem shapeR_c91  (w : World) :
    Calls Try.prog 21 #[.int .i64 91] w fun e w' => e = .returned (.tuple #[.int .i64 (shapeL 91).1, .int .i64 (shapeL 91).2.1, .int .i64 (shapeL 91).2.2]) ∧ w = w' := by
  go_enter Try.func21, Try.ntmps21
  go_wp2
  all_goals (go_returns; go_light)
  all_goals exact ⟨ret_three (by decide), rfl⟩
set_option maxRecDepth 100000 in
set_option maxHeartbeats 4000000 in
theorem shapeR_c92  (w : World) :
    Calls Try.prog 21 #[.int .i64 92] w fun e w' => e = .returned (.tuple #[.int .i64 (shapeL 92).1, .int .i64 (shapeL 92).2.1, .int .i64 (shapeL 92).2.2]) ∧ w = w' := by
  go_enter Try.func21, Try.ntmps21
  go_wp2
  all_goals (go_returns; go_light)
  all_goals exact ⟨ret_three (by decide), rfl⟩
set_option maxRecDepth 100000 in
set_option maxHeartbeats 4000000 in
theorem shapeR_c93  (w : World) :
    Calls Try.prog 21 #[.int .i64 93] w fun e w' => e = .returned (.tuple #[.int .i64 (shapeL 93).1, .int .i64 (shapeL 93).2.1, .int .i64 (shapeL 93).2.2]) ∧ w = w' := by
  go_enter Try.func21, Try.ntmps21
  go_wp2
  all_goals (go_returns; go_light)
  all_goals exact ⟨ret_three (by decide), rfl⟩
set_option maxRecDepth 100000 in
set_option maxHeartbeats 4000000 in
theorem shapeR_c94  (w : World) :
    Calls Try.prog 21 #[.int .i64 94] w fun e w' => e = .returned (.tuple #[.int .i64 (shapeL 94).1, .int .i64 (shapeL 94).2.1, .int .i64 (shapeL 94).2.2]) ∧ w = w' := by
  go_enter Try.func21, Try.ntmps21
  go_wp2
  all_goals (go_returns; go_light)
  all_goals exact ⟨ret_three (by decide), rfl⟩
set_option maxRecDepth 100000 in
set_option maxHeartbeats 4000000 in
theorem shapeR_c95  (w : World) :
    Calls Try.prog 21 #[.int .i64 95] w fun e w' => e = .returned (.tuple #[.int .i64 (shapeL 95).1, .int .i64 (shapeL 95).2.1, .int .i64 (shapeL 95).2.2]) ∧ w = w' := by
  go_enter Try.func21, Try.ntmps21
  go_wp2
  all_goals (go_returns; go_light)
  all_goals exact ⟨ret_three (by decide), rfl⟩
set_option maxRecDepth 100000 in
set_option maxHeartbeats 4000000 in
theorem shapeR_c96  (w : World) :
    Calls Try.prog 21 #[.int .i64 96] w fun e w' => e = .returned (.tuple #[.int .i64 (shapeL 96).1, .int .i64 (shapeL 96).2.1, .int .i64 (shapeL 96).2.2]) ∧ w = w' := by
  go_enter Try.func21, Try.ntmps21
  go_wp2
  all_goals (go_returns; go_light)
  all_goals exact ⟨ret_three (by decide), rfl⟩
set_option maxRecDepth 100000 in
set_option maxHeartbeats 4000000 in
theorem shapeR_r3 (o : Int) (h1 : 3 ≤ o) (h2 : o ≤ 12) (w : World) :
    Calls Try.prog 21 #[.int .i64 o] w fun e w' => e = .returned (.tuple #[.int .i64 (shapeL o).1, .int .i64 (shapeL o).2.1, .int .i64 (shapeL o).2.2]) ∧ w = w' := by
  have q1 : (o == 1) = false := by simp; omega
  have q2 : (o == 2) = false := by simp; omega
  have q61 : (o == 61) = false := by simp; omega
  have q84 : (o == 84) = false := by simp; omega
  have q85 : (o == 85) = false := by simp; omega
  have q86 : (o == 86) = false := by simp; omega
  have q87 : (o == 87) = false := by simp; omega
  have q88 : (o == 88) = false := by simp; omega
  have q89 : (o == 89) = false := by simp; omega
  have q90 : (o == 90) = false := by simp; omega
  have q91 : (o == 91) = false := by simp; omega
  have q92 : (o == 92) = false := by simp; omega
  have q93 : (o == 93) = false := by simp; omega
  have q94 : (o == 94) = false := by simp; omega
  have q95 : (o == 95) = false := by simp; omega
  have q96 : (o == 96) = false := by simp; omega
  go_enter Try.func21, Try.ntmps21
  go_wp2
  all_goals (go_returns; go_light)
  all_goals exact ⟨ret_three (shapeL_r3 o h1 h2), rfl⟩
set_option maxRecDepth 100000 in
set_option maxHeartbeats 4000000 in
theorem shapeR_r13 (o : Int) (h1 : 13 ≤ o) (h2 : o ≤ 15) (w : World) :
    Calls Try.prog 21 #[.int .i64 o] w fun e w' => e = .returned (.tuple #[.int .i64 (shapeL o).1, .int .i64 (shapeL o).2.1, .int .i64 (shapeL o).2.2]) ∧ w = w' := by
  have q1 : (o == 1) = false := by simp; omega
  have q2 : (o == 2) = false := by simp; omega
  have q61 : (o == 61) = false := by simp; omega
  have q84 : (o == 84) = false := by simp; omega
  have q85 : (o == 85) = false := by simp; omega
  have q86 : (o == 86) = false := by simp; omega
  have q87 : (o == 87) = false := by simp; omega
  have q88 : (o == 88) = false := by simp; omega
  have q89 : (o == 89) = false := by simp; omega
  have q90 : (o == 90) = false := by simp; omega
  have q91 : (o == 91) = false := by simp; omega
  have q92 : (o == 92) = false := by simp; omega
  have q93 : (o == 93) = false := by simp; omega
  have q94 : (o == 94) = false := by simp; omega
  have q95 : (o == 95) = false := by simp; omega
  have q96 : (o == 96) = false := by simp; omega
  go_enter Try.func21, Try.ntmps21
  go_wp2
  all_goals (go_returns; go_light)
  all_goals exact ⟨ret_three (shapeL_r13 o h1 h2), rfl⟩
set_option maxRecDepth 100000 in
set_option maxHeartbeats 4000000 in
theorem shapeR_r16 (o : Int) (h1 : 16 ≤ o) (h2 : o ≤ 25) (w : World) :
    Calls Try.prog 21 #[.int .i64 o] w fun e w' => e = .returned (.tuple #[.int .i64 (shapeL o).1, .int .i64 (shapeL o).2.1, .int .i64 (shapeL o).2.2]) ∧ w = w' := by
  have q1 : (o == 1) = false := by simp; omega
  have q2 : (o == 2) = false := by simp; omega
  have q61 : (o == 61) = false := by simp; omega
  have q84 : (o == 84) = false := by simp; omega
  have q85 : (o == 85) = false := by simp; omega
  have q86 : (o == 86) = false := by simp; omega
  have q87 : (o == 87) = false := by simp; omega
  have q88 : (o == 88) = false := by simp; omega
  have q89 : (o == 89) = false := by simp; omega
  have q90 : (o == 90) = false := by simp; omega
  have q91 : (o == 91) = false := by simp; omega
  have q92 : (o == 92) = false := by simp; omega
  have q93 : (o == 93) = false := by simp; omega
  have q94 : (o == 94) = false := by simp; omega
  have q95 : (o == 95) = false := by simp; omega
  have q96 : (o == 96) = false := by simp; omega
  go_enter Try.func21, Try.ntmps21
  go_wp2
  all_goals (go_returns; go_light)
  all_goals exact ⟨ret_three (shapeL_r16 o h1 h2), rfl⟩
set_option maxRecDepth 100000 in
set_option maxHeartbeats 4000000 in
theorem shapeR_r33 (o : Int) (h1 : 33 ≤ o) (h2 : o ≤ 42) (w : World) :
    Calls Try.prog 21 #[.int .i64 o] w fun e w' => e = .returned (.tuple #[.int .i64 (shapeL o).1, .int .i64 (shapeL o).2.1, .int .i64 (shapeL o).2.2]) ∧ w = w' := by
  have q1 : (o == 1) = false := by simp; omega
  have q2 : (o == 2) = false := by simp; omega
  have q61 : (o == 61) = false := by simp; omega
  have q84 : (o == 84) = false := by simp; omega
  have q85 : (o == 85) = false := by simp; omega
  have q86 : (o == 86) = false := by simp; omega
  have q87 : (o == 87) = false := by simp; omega
  have q88 : (o == 88) = false := by simp; omega
  have q89 : (o == 89) = false := by simp; omega
  have q90 : (o == 90) = false := by simp; omega
  have q91 : (o == 91) = false := by simp; omega
  have q92 : (o == 92) = false := by simp; omega
  have q93 : (o == 93) = false := by simp; omega
  have q94 : (o == 94) = false := by simp; omega
  have q95 : (o == 95) = false := by simp; omega
  have q96 : (o == 96) = false := by simp; omega
  have p1 : (o - 30 == 1) = false := by simp; omega
  have p2 : (o - 30 == 2) = false := by simp; omega
  go_enter Try.func21, Try.ntmps21
  go_wp2
  all_goals (go_returns; go_light)
  all_goals exact ⟨ret_three (shapeL_r33 o h1 h2), rfl⟩
set_option maxRecDepth 100000 in
set_option maxHeartbeats 4000000 in
theorem shapeR_r43 (o : Int) (h1 : 43 ≤ o) (h2 : o ≤ 45) (w : World) :
    Calls Try.prog 21 #[.int .i64 o] w fun e w' => e = .returned (.tuple #[.int .i64 (shapeL o).1, .int .i64 (shapeL o).2.1, .int .i64 (shapeL o).2.2]) ∧ w = w' := by
  have q1 : (o == 1) = false := by simp; omega
  have q2 : (o == 2) = false := by simp; omega
  have q61 : (o == 61) = false := by simp; omega
  have q84 : (o == 84) = false := by simp; omega
  have q85 : (o == 85) = false := by simp; omega
  have q86 : (o == 86) = false := by simp; omega
  have q87 : (o == 87) = false := by simp; omega
  have q88 : (o == 88) = false := by simp; omega
  have q89 : (o == 89) = false := by simp; omega
  have q90 : (o == 90) = false := by simp; omega
  have q91 : (o == 91) = false := by simp; omega
  have q92 : (o == 92) = false := by simp; omega
  have q93 : (o == 93) = false := by simp; omega
  have q94 : (o == 94) = false := by simp; omega
  have q95 : (o == 95) = false := by simp; omega
  have q96 : (o == 96) = false := by simp; omega
  have p1 : (o - 30 == 1) = false := by simp; omega
  have p2 : (o - 30 == 2) = false := by simp; omega
  go_enter Try.func21, Try.ntmps21
  go_wp2
  all_goals (go_returns; go_light)
  all_goals exact ⟨ret_three (shapeL_r43 o h1 h2), rfl⟩
set_option maxRecDepth 100000 in
set_option maxHeartbeats 4000000 in
theorem shapeR_r46 (o : Int) (h1 : 46 ≤ o) (h2 : o ≤ 55) (w : World) :
    Calls Try.prog 21 #[.int .i64 o] w fun e w' => e = .returned (.tuple #[.int .i64 (shapeL o).1, .int .i64 (shapeL o).2.1, .int .i64 (shapeL o).2.2]) ∧ w = w' := by
  have q1 : (o == 1) = false := by simp; omega
  have q2 : (o == 2) = false := by simp; omega
  have q61 : (o == 61) = false := by simp; omega
  have q84 : (o == 84) = false := by simp; omega
  have q85 : (o == 85) = false := by simp; omega
  have q86 : (o == 86) = false := by simp; omega
  have q87 : (o == 87) = false := by simp; omega
  have q88 : (o == 88) = false := by simp; omega
  have q89 : (o == 89) = false := by simp; omega
  have q90 : (o == 90) = false := by simp; omega
  have q91 : (o == 91) = false := by simp; omega
  have q92 : (o == 92) = false := by simp; omega
  have q93 : (o == 93) = false := by simp; omega
  have q94 : (o == 94) = false := by simp; omega
  have q95 : (o == 95) = false := by simp; omega
  have q96 : (o == 96) = false := by simp; omega
  have p1 : (o - 30 == 1) = false := by simp; omega
  have p2 : (o - 30 == 2) = false := by simp; omega
  go_enter Try.func21, Try.ntmps21
  go_wp2
  all_goals (go_returns; go_light)
  all_goals exact ⟨ret_three (shapeL_r46 o h1 h2), rfl⟩
set_option maxRecDepth 100000 in
set_option maxHeartbeats 4000000 in
theorem shapeR_r62 (o : Int) (h1 : 62 ≤ o) (h2 : o ≤ 65) (w : World) :
    Calls Try.prog 21 #[.int .i64 o] w fun e w' => e = .returned (.tuple #[.int .i64 (shapeL o).1, .int .i64 (shapeL o).2.1, .int .i64 (shapeL o).2.2]) ∧ w = w' := by
  have q1 : (o == 1) = false := by simp; omega
  have q2 : (o == 2) = false := by simp; omega
  have q61 : (o == 61) = false := by simp; omega
  have q84 : (o == 84) = false := by simp; omega
  have q85 : (o == 85) = false := by simp; omega
  have q86 : (o == 86) = false := by simp; omega
  have q87 : (o == 87) = false := by simp; omega
  have q88 : (o == 88) = false := by simp; omega
  have q89 : (o == 89) = false := by simp; omega
  have q90 : (o == 90) = false := by simp; omega
  have q91 : (o == 91) = false := by simp; omega
  have q92 : (o == 92) = false := by simp; omega
  have q93 : (o == 93) = false := by simp; omega
  have q94 : (o == 94) = false := by simp; omega
  have q95 : (o == 95) = false := by simp; omega
  have q96 : (o == 96) = false := by simp; omega
  go_enter Try.func21, Try.ntmps21
  go_wp2
  all_goals (go_returns; go_light)
  all_goals exact ⟨ret_three (shapeL_r62 o h1 h2), rfl⟩
set_option maxRecDepth 100000 in
set_option maxHeartbeats 4000000 in
theorem shapeR_r66 (o : Int) (h1 : 66 ≤ o) (h2 : o ≤ 71) (w : World) :
    Calls Try.prog 21 #[.int .i64 o] w fun e w' => e = .returned (.tuple #[.int .i64 (shapeL o).1, .int .i64 (shapeL o).2.1, .int .i64 (shapeL o).2.2]) ∧ w = w' := by
  have q1 : (o == 1) = false := by simp; omega
  have q2 : (o == 2) = false := by simp; omega
  have q61 : (o == 61) = false := by simp; omega
  have q84 : (o == 84) = false := by simp; omega
  have q85 : (o == 85) = false := by simp; omega
  have q86 : (o == 86) = false := by simp; omega
  have q87 : (o == 87) = false := by simp; omega
  have q88 : (o == 88) = false := by simp; omega
  have q89 : (o == 89) = false := by simp; omega
  have q90 : (o == 90) = false := by simp; omega
  have q91 : (o == 91) = false := by simp; omega
  have q92 : (o == 92) = false := by simp; omega
  have q93 : (o == 93) = false := by simp; omega
  have q94 : (o == 94) = false := by simp; omega
  have q95 : (o == 95) = false := by simp; omega
  have q96 : (o == 96) = false := by simp; omega
  go_enter Try.func21, Try.ntmps21
  go_wp2
  all_goals (go_returns; go_light)
  all_goals exact ⟨ret_three (shapeL_r66 o h1 h2), rfl⟩
set_option maxRecDepth 100000 in
set_option maxHeartbeats 4000000 in
theorem shapeR_r80 (o : Int) (h1 : 80 ≤ o) (h2 : o ≤ 83) (w : World) :
    Calls Try.prog 21 #[.int .i64 o] w fun e w' => e = .returned (.tuple #[.int .i64 (shapeL o).1, .int .i64 (shapeL o).2.1, .int .i64 (shapeL o).2.2]) ∧ w = w' := by
  have q1 : (o == 1) = false := by simp; omega
  have q2 : (o == 2) = false := by simp; omega
  have q61 : (o == 61) = false := by simp; omega
  have q84 : (o == 84) = false := by simp; omega
  have q85 : (o == 85) = false := by simp; omega
  have q86 : (o == 86) = false := by simp; omega
  have q87 : (o == 87) = false := by simp; omega
  have q88 : (o == 88) = false := by simp; omega
  have q89 : (o == 89) = false := by simp; omega
  have q90 : (o == 90) = false := by simp; omega
  have q91 : (o == 91) = false := by simp; omega
  have q92 : (o == 92) = false := by simp; omega
  have q93 : (o == 93) = false := by simp; omega
  have q94 : (o == 94) = false := by simp; omega
  have q95 : (o == 95) = false := by simp; omega
  have q96 : (o == 96) = false := by simp; omega
  go_enter Try.func21, Try.ntmps21
  go_wp2
  all_goals (go_returns; go_light)
  all_goals exact ⟨ret_three (shapeL_r80 o h1 h2), rfl⟩
set_option maxRecDepth 100000 in
set_option maxHeartbeats 4000000 in
theorem shapeR_r26 (o : Int) (h1 : 26 ≤ o) (h2 : o ≤ 30) (w : World) :
    Calls Try.prog 21 #[.int .i64 o] w fun e w' => e = .returned (.tuple #[.int .i64 (shapeL o).1, .int .i64 (shapeL o).2.1, .int .i64 (shapeL o).2.2]) ∧ w = w' := by
  have q1 : (o == 1) = false := by simp; omega
  have q2 : (o == 2) = false := by simp; omega
  have q61 : (o == 61) = false := by simp; omega
  have q84 : (o == 84) = false := by simp; omega
  have q85 : (o == 85) = false := by simp; omega
  have q86 : (o == 86) = false := by simp; omega
  have q87 : (o == 87) = false := by simp; omega
  have q88 : (o == 88) = false := by simp; omega
  have q89 : (o == 89) = false := by simp; omega
  have q90 : (o == 90) = false := by simp; omega
  have q91 : (o == 91) = false := by simp; omega
  have q92 : (o == 92) = false := by simp; omega
  have q93 : (o == 93) = false := by simp; omega
  have q94 : (o == 94) = false := by simp; omega
  have q95 : (o == 95) = false := by simp; omega
  have q96 : (o == 96) = false := by simp; omega
  go_enter Try.func21, Try.ntmps21
  go_wp2
  all_goals (go_returns; go_light)
  all_goals exact ⟨ret_three (shapeL_r26 o h1 h2), rfl⟩
set_option maxRecDepth 100000 in
set_option maxHeartbeats 4000000 in
theorem shapeR_r56 (o : Int) (h1 : 56 ≤ o) (h2 : o ≤ 60) (w : World) :
    Calls Try.prog 21 #[.int .i64 o] w fun e w' => e = .returned (.tuple #[.int .i64 (shapeL o).1, .int .i64 (shapeL o).2.1, .int .i64 (shapeL o).2.2]) ∧ w = w' := by
  have q1 : (o == 1) = false := by simp; omega
  have q2 : (o == 2) = false := by simp; omega
  have q61 : (o == 61) = false := by simp; omega
  have q84 : (o == 84) = false := by simp; omega
  have q85 : (o == 85) = false := by simp; omega
  have q86 : (o == 86) = false := by simp; omega
  have q87 : (o == 87) = false := by simp; omega
  have q88 : (o == 88) = false := by simp; omega
  have q89 : (o == 89) = false := by simp; omega
  have q90 : (o == 90) = false := by simp; omega
  have q91 : (o == 91) = false := by simp; omega
  have q92 : (o == 92) = false := by simp; omega
  have q93 : (o == 93) = false := by simp; omega
  have q94 : (o == 94) = false := by simp; omega
  have q95 : (o == 95) = false := by simp; omega
  have q96 : (o == 96) = false := by simp; omega
  go_enter Try.func21, Try.ntmps21
  go_wp2
  all_goals (go_returns; go_light)
  all_goals exact ⟨ret_three (shapeL_r56 o h1 h2), rfl⟩
set_option maxRecDepth 100000 in
set_option maxHeartbeats 4000000 in
theorem shapeR_r72 (o : Int) (h1 : 72 ≤ o) (h2 : o ≤ 79) (w : World) :
    Calls Try.prog 21 #[.int .i64 o] w fun e w' => e = .returned (.tuple #[.int .i64 (shapeL o).1, .int .i64 (shapeL o).2.1, .int .i64 (shapeL o).2.2]) ∧ w = w' := by
  have q1 : (o == 1) = false := by simp; omega
  have q2 : (o == 2) = false := by simp; omega
  have q61 : (o == 61) = false := by simp; omega
  have q84 : (o == 84) = false := by simp; omega
  have q85 : (o == 85) = false := by simp; omega
  have q86 : (o == 86) = false := by simp; omega
  have q87 : (o == 87) = false := by simp; omega
  have q88 : (o == 88) = false := by simp; omega
  have q89 : (o == 89) = false := by simp; omega
  have q90 : (o == 90) = false := by simp; omega
  have q91 : (o == 91) = false := by simp; omega
  have q92 : (o == 92) = false := by simp; omega
  have q93 : (o == 93) = false := by simp; omega
  have q94 : (o == 94) = false := by simp; omega
  have q95 : (o == 95) = false := by simp; omega
  have q96 : (o == 96) = false := by simp; omega
  go_enter Try.func21, Try.ntmps21
  go_wp2
  all_goals (go_returns; go_light)
  all_goals exact ⟨ret_three (shapeL_r72 o h1 h2), rfl⟩
set_option maxRecDepth 100000 in
set_option maxHeartbeats 4000000 in
theorem shapeR_lo (o : Int) (h1 : o < 1) (w : World) :
    Calls Try.prog 21 #[.int .i64 o] w fun e w' => e = .returned (.tuple #[.int .i64 (shapeL o).1, .int .i64 (shapeL o).2.1, .int .i64 (shapeL o).2.2]) ∧ w = w' := by
  have q1 : (o == 1) = false := by simp; omega
  have q2 : (o == 2) = false := by simp; omega
  have q61 : (o == 61) = false := by simp; omega
  have q84 : (o == 84) = false := by simp; omega
  have q85 : (o == 85) = false := by simp; omega
  have q86 : (o == 86) = false := by simp; omega
  have q87 : (o == 87) = false := by simp; omega
  have q88 : (o == 88) = false := by simp; omega
  have q89 : (o == 89) = false := by simp; omega
  have q90 : (o == 90) = false := by simp; omega
  have q91 : (o == 91) = false := by simp; omega
  have q92 : (o == 92) = false := by simp; omega
  have q93 : (o == 93) = false := by simp; omega
  have q94 : (o == 94) = false := by simp; omega
  have q95 : (o == 95) = false := by simp; omega
  have q96 : (o == 96) = false := by simp; omega
  go_enter Try.func21, Try.ntmps21
  go_wp2
  all_goals (go_returns; go_light)
  all_goals exact ⟨ret_three (shapeL_lo o h1), rfl⟩
set_option maxRecDepth 100000 in
set_option maxHeartbeats 4000000 in
theorem shapeR_hi (o : Int) (h1 : 96 < o) (w : World) :
    Calls Try.prog 21 #[.int .i64 o] w fun e w' => e = .returned (.tuple #[.int .i64 (shapeL o).1, .int .i64 (shapeL o).2.1, .int .i64 (shapeL o).2.2]) ∧ w = w' := by
  have q1 : (o == 1) = false := by simp; omega
  have q2 : (o == 2) = false := by simp; omega
  have q61 : (o == 61) = false := by simp; omega
  have q84 : (o == 84) = false := by simp; omega
  have q85 : (o == 85) = false := by simp; omega
  have q86 : (o == 86) = false := by simp; omega
  have q87 : (o == 87) = false := by simp; omega
  have q88 : (o == 88) = false := by simp; omega
  have q89 : (o == 89) = false := by simp; omega
  have q90 : (o == 90) = false := by simp; omega
  have q91 : (o == 91) = false := by simp; omega
  have q92 : (o == 92) = false := by simp; omega
  have q93 : (o == 93) = false := by simp; omega
  have q94 : (o == 94) = false := by simp; omega
  have q95 : (o == 95) = false := by simp; omega
  have q96 : (o == 96) = false := by simp; omega
  go_enter Try.func21, Try.ntmps21
  go_wp2
  all_goals (go_returns; go_light)
  all_goals exact ⟨ret_three (shapeL_hi o h1), rfl⟩
theorem shapeR_any (o : Int) (w : World) :
    Calls Try.prog 21 #[.int .i64 o] w fun e w' => e = .returned (.tuple #[.int .i64 (shapeL o).1, .int .i64 (shapeL o).2.1, .int .i64 (shapeL o).2.2]) ∧ w = w' := by
  by_cases h0 : o < 1
  · exact shapeR_lo o h0 w
  by_cases h9 : 96 < o
  · exact shapeR_hi o h9 w
  by_cases r3 : 3 ≤ o ∧ o ≤ 12
  · exact shapeR_r3 o r3.1 r3.2 w
  by_cases r13 : 13 ≤ o ∧ o ≤ 15
  · exact shapeR_r13 o r13.1 r13.2 w
  by_cases r16 : 16 ≤ o ∧ o ≤ 25
  · exact shapeR_r16 o r16.1 r16.2 w
  by_cases r33 : 33 ≤ o ∧ o ≤ 42
  · exact shapeR_r33 o r33.1 r33.2 w
  by_cases r43 : 43 ≤ o ∧ o ≤ 45
  · exact shapeR_r43 o r43.1 r43.2 w
  by_cases r46 : 46 ≤ o ∧ o ≤ 55
  · exact shapeR_r46 o r46.1 r46.2 w
  by_cases r62 : 62 ≤ o ∧ o ≤ 65
  · exact shapeR_r62 o r62.1 r62.2 w
  by_cases r66 : 66 ≤ o ∧ o ≤ 71
  · exact shapeR_r66 o r66.1 r66.2 w
  by_cases r80 : 80 ≤ o ∧ o ≤ 83
  · exact shapeR_r80 o r80.1 r80.2 w
  by_cases r26 : 26 ≤ o ∧ o ≤ 30
  · exact shapeR_r26 o r26.1 r26.2 w
  by_cases r56 : 56 ≤ o ∧ o ≤ 60
  · exact shapeR_r56 o r56.1 r56.2 w
  by_cases r72 : 72 ≤ o ∧ o ≤ 79
  · exact shapeR_r72 o r72.1 r72.2 w
  have hc : o = 1 ∨ o = 2 ∨ o = 31 ∨ o = 32 ∨ o = 61 ∨ o = 84 ∨ o = 85 ∨ o = 86 ∨ o = 87 ∨ o = 88 ∨ o = 89 ∨ o = 90 ∨ o = 91 ∨ o = 92 ∨ o = 93 ∨ o = 94 ∨ o = 95 ∨ o = 96 := by omega
  rcases hc with rfl | rfl | rfl | rfl | rfl | rfl | rfl | rfl | rfl | rfl | rfl | rfl | rfl | rfl | rfl | rfl | rfl | rfl
  · exact shapeR_c1 w
  · exact shapeR_c2 w
  · exact shapeR_c31 w
  · exact shapeR_c32 w
  · exact shapeR_c61 w
  · exact shapeR_c84 w
  · exact shapeR_c85 w
  · exact shapeR_c86 w
  · exact shapeR_c87 w
  · exact shapeR_c88 w
  · exact shapeR_c89 w
  · exact shapeR_c90 w
  · exact shapeR_c91 w
  · exact shapeR_c92 w
  · exact shapeR_c93 w
  · exact shapeR_c94 w
  · exact shapeR_c95 w
  · exact shapeR_c96 w
end Go.Proofs.Ytopnbdblgfjnpaa
