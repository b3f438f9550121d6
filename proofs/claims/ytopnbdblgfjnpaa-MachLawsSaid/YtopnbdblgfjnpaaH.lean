/- What mach's Eval2 answers, of any values. -/
import Derived.Test.YtopnbdblgfjnpaaG
namespace Go.Proofs.Ytopnbdblgfjnpaa
set_option linter.unusedSimpArgs false
set_option linter.unusedVariables false
open Go.RowKit

theorem shape_two (o : Int) (h : ((shapeL o).2.1 == 0) = false) : ((shapeL o).1 = 3 ∧ 62 ≤ o ∧ o ≤ 71) ∨ ((shapeL o).1 = 1 ∧ 1 ≤ o ∧ o ≤ 25) ∨ ((shapeL o).1 = 2 ∧ 31 ≤ o ∧ o ≤ 55) := by
  have h' : (shapeL o).2.1 ≠ 0 := by simpa using h
  clear h
  unfold shapeL at *
  by_cases a : 1 ≤ o ∧ o ≤ 25
  · rw [if_pos a]
    unfold wholeShapeL
    refine Or.inr (Or.inl ⟨?_, a.1, a.2⟩)
    repeat' split
    all_goals rfl
  · rw [if_neg a] at *
    by_cases b : 31 ≤ o ∧ o ≤ 55
    · rw [if_pos b]
      unfold wholeShapeL
      refine Or.inr (Or.inr ⟨?_, b.1, b.2⟩)
      repeat' split
      all_goals rfl
    · rw [if_neg b] at *
      by_cases c : o = 61
      · rw [if_pos c] at h'
        exact absurd rfl h'
      · rw [if_neg c] at *
        by_cases d : 62 ≤ o ∧ o ≤ 65
        · rw [if_pos d]
          exact Or.inl ⟨rfl, by omega, by omega⟩
        · rw [if_neg d] at *
          by_cases f : 66 ≤ o ∧ o ≤ 71
          · rw [if_pos f]
            exact Or.inl ⟨rfl, by omega, by omega⟩
          · rw [if_neg f] at h'
            exact absurd rfl h'
/-- What mach answers of an operation of two. -/
def eval2L (o k n b k' n' b' : Int) : (Int × Int × Int) × Bool :=
  if k == 4 || k' == 4 then pointersL o k n b k' n' b'
  else if (shapeL o).2.1 == 0 || k != (shapeL o).1 || k' != (shapeL o).2.1 then noneL
  else answerL (shapeL o).2.2 (bits2L o (shapeL o).1 n n').1 (bits2L o (shapeL o).1 n n').2
theorem eval2_z (o k n b k' n' b' : Int) (hn : 0 ≤ n) (hn' : 0 ≤ n') (h0 : ((shapeL o).2.1 == 0) = true) (w : World) :
    Calls Try.prog 11 #[.int .i64 o, .agg #[.int .i64 k, .int .u64 n, .int .i64 b], .agg #[.int .i64 k', .int .u64 n', .int .i64 b']] w fun e w' => e = .returned (.tuple #[.agg #[.int .i64 (eval2L o k n b k' n' b').1.1, .int .u64 (eval2L o k n b k' n' b').1.2.1, .int .i64 (eval2L o k n b k' n' b').1.2.2], .bool (eval2L o k n b k' n' b').2]) ∧ Fresh w w' := by
  go_enter Try.func11, Try.ntmps11
  go_wp2_with (first | (go_at_call 33; refine (pointers_any _ _ _ _ _ _ _ hn hn' _).mono ?_; rintro e w1 ⟨rfl, h1⟩; obtain ⟨c1, f1⟩ := h1.cells; have z1a := h1.z (n := w.heap.size) (by first | assumption | (simp; done) | (simp; assumption) | (simp; omega)); have z1b := h1.z (n := w.heap.size + 1) (by first | assumption | (simp; done) | (simp; assumption) | (simp; omega)); have z1c := h1.z (n := w.heap.size + 1 + 1) (by first | assumption | (simp; done) | (simp; assumption) | (simp; omega))) | (go_at_call 20; refine (shape_any _ _).mono ?_; rintro e w' ⟨rfl, rfl⟩))
  all_goals go_light
  all_goals first | (refine bodyPost_ret (v := ?_) ?_ rfl ?_; rotate_left 1; focus (simp [results, Try.results11, go_sem, *]; (try rfl); done)) | go_returns
  all_goals exact ⟨ret_valok (by (try subst_vars); first | (simp [eval2L, noneL, *]; done) | simp_all [eval2L, noneL]), by (repeat' first | with_reducible exact Fresh.refl _ | with_reducible assumption | with_reducible refine Fresh.alloc ?_ _ _ | with_reducible refine Fresh.drew ?_ | with_reducible refine Fresh.setCell ?_ ?_ _ | with_reducible refine Fresh.trans ?_ (by assumption) | (simp; done) | (simp; omega))⟩
theorem eval2_n (o k n b k' n' b' : Int) (hn : 0 ≤ n) (hn' : 0 ≤ n') (h0 : ((shapeL o).2.1 == 0) = false) (hsh : Hid (((shapeL o).1 = 3 ∧ 62 ≤ o ∧ o ≤ 71) ∨ ((shapeL o).1 = 1 ∧ 1 ≤ o ∧ o ≤ 25) ∨ ((shapeL o).1 = 2 ∧ 31 ≤ o ∧ o ≤ 55))) (w : World) :
    Calls Try.prog 11 #[.int .i64 o, .agg #[.int .i64 k, .int .u64 n, .int .i64 b], .agg #[.int .i64 k', .int .u64 n', .int .i64 b']] w fun e w' => e = .returned (.tuple #[.agg #[.int .i64 (eval2L o k n b k' n' b').1.1, .int .u64 (eval2L o k n b k' n' b').1.2.1, .int .i64 (eval2L o k n b k' n' b').1.2.2], .bool (eval2L o k n b k' n' b').2]) ∧ Fresh w w' := by
  go_enter Try.func11, Try.ntmps11
  go_wp2_with (first | (go_at_call 33; refine (pointers_any _ _ _ _ _ _ _ hn hn' _).mono ?_; rintro e w1 ⟨rfl, h1⟩; obtain ⟨c1, f1⟩ := h1.cells; have z1a := h1.z (n := w.heap.size) (by first | assumption | (simp; done) | (simp; assumption) | (simp; omega)); have z1b := h1.z (n := w.heap.size + 1) (by first | assumption | (simp; done) | (simp; assumption) | (simp; omega)); have z1c := h1.z (n := w.heap.size + 1 + 1) (by first | assumption | (simp; done) | (simp; assumption) | (simp; omega))) | (go_at_call 20; refine (shape_any _ _).mono ?_; rintro e w' ⟨rfl, rfl⟩) | (go_at_call 34; refine (bits2_any _ _ _ _ hn hn' hsh.out _).mono ?_; rintro e w2 ⟨rfl, h2⟩; obtain ⟨c2, f2⟩ := h2.cells; have z2a := h2.z (n := w.heap.size) (by first | assumption | (simp; done) | (simp; assumption) | (simp; omega)); have z2b := h2.z (n := w.heap.size + 1) (by first | assumption | (simp; done) | (simp; assumption) | (simp; omega)); have z2c := h2.z (n := w.heap.size + 1 + 1) (by first | assumption | (simp; done) | (simp; assumption) | (simp; omega))) | (go_at_call 35; refine (answer_any _ _ _ _).mono ?_; rintro e w3 ⟨rfl, h3⟩; obtain ⟨c3, f3⟩ := h3.cells; have z3a := h3.z (n := w.heap.size) (by first | assumption | (simp; done) | (simp; assumption) | (simp; omega)); have z3b := h3.z (n := w.heap.size + 1) (by first | assumption | (simp; done) | (simp; assumption) | (simp; omega)); have z3c := h3.z (n := w.heap.size + 1 + 1) (by first | assumption | (simp; done) | (simp; assumption) | (simp; omega))))
  all_goals go_light
  all_goals first | (refine bodyPost_ret (v := ?_) ?_ rfl ?_; rotate_left 1; focus (simp [results, Try.results11, go_sem, *]; (try rfl); done)) | go_returns
  all_goals exact ⟨ret_valok (by (try subst_vars); first | (simp [eval2L, noneL, *]; done) | simp_all [eval2L, noneL]), by (repeat' first | with_reducible exact Fresh.refl _ | with_reducible assumption | with_reducible refine Fresh.alloc ?_ _ _ | with_reducible refine Fresh.drew ?_ | with_reducible refine Fresh.setCell ?_ ?_ _ | with_reducible refine Fresh.trans ?_ (by assumption) | (simp; done) | (simp; omega))⟩
theorem eval2_any (o k n b k' n' b' : Int) (hn : 0 ≤ n) (hn' : 0 ≤ n') (w : World) :
    Calls Try.prog 11 #[.int .i64 o, .agg #[.int .i64 k, .int .u64 n, .int .i64 b], .agg #[.int .i64 k', .int .u64 n', .int .i64 b']] w fun e w' => e = .returned (.tuple #[.agg #[.int .i64 (eval2L o k n b k' n' b').1.1, .int .u64 (eval2L o k n b k' n' b').1.2.1, .int .i64 (eval2L o k n b k' n' b').1.2.2], .bool (eval2L o k n b k' n' b').2]) ∧ Fresh w w' := by
  cases h0 : (shapeL o).2.1 == 0
  · exact eval2_n o k n b k' n' b' hn hn' h0 (shape_two o h0) w
  · exact eval2_z o k n b k' n' b' hn hn' h0 w
end Go.Proofs.Ytopnbdblgfjnpaa
