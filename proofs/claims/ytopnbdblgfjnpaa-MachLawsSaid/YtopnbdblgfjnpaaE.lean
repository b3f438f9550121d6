/- What mach's operations of two answer where a pointer is among the operands. -/
import Derived.Test.YtopnbdblgfjnpaaD
namespace Go.Proofs.Ytopnbdblgfjnpaa
set_option linter.unusedSimpArgs false
set_option linter.unusedVariables false
open Go.RowKit

def noneL : (Int × Int × Int) × Bool := ((0, 0, 0), false)
def twoL (o n b n' b' : Int) : (Int × Int × Int) × Bool :=
  if b != b' then noneL else if o == 34 then (longL (wrap64 (IntKind.u64.wrap (n - n'))), true)
  else if 46 ≤ o ∧ o ≤ 55 then answerL 1 (whole64 (o - 30) n n').1 (whole64 (o - 30) n n').2 else noneL
def pointersL (o k n b k' n' b' : Int) : (Int × Int × Int) × Bool :=
  if nowhereL k b || nowhereL k' b' then noneL else if k == 4 && k' == 4 then twoL o n b n' b' else if k' == 2 then palL o n b n'
  else if k == 2 && o != 34 then palL o n' b' n else noneL
theorem two_any (o k n b k' n' b' : Int) (hn : 0 ≤ n) (hn' : 0 ≤ n') (w : World) :
    Calls Try.prog 53 #[.int .i64 o, .agg #[.int .i64 k, .int .u64 n, .int .i64 b], .agg #[.int .i64 k', .int .u64 n', .int .i64 b']] w fun e w' => e = .returned (.tuple #[.agg #[.int .i64 (twoL o n b n' b').1.1, .int .u64 (twoL o n b n' b').1.2.1, .int .i64 (twoL o n b n' b').1.2.2], .bool (twoL o n b n' b').2]) ∧ Fresh w w' := by
  go_enter Try.func53, Try.ntmps53
  go_wp2_with (first | (go_at_call 26; refine (long_any _ _).mono ?_; rintro e w1 ⟨rfl, h1⟩; obtain ⟨c1, f1⟩ := h1.cells; have z1a := h1.z (n := w.heap.size) (by first | assumption | (simp; done) | (simp; assumption) | (simp; omega)); have z1b := h1.z (n := w.heap.size + 1) (by first | assumption | (simp; done) | (simp; assumption) | (simp; omega)); have z1c := h1.z (n := w.heap.size + 1 + 1) (by first | assumption | (simp; done) | (simp; assumption) | (simp; omega))) | (go_at_call 35; refine (answer_any _ _ _ _).mono ?_; rintro e w1 ⟨rfl, h1⟩; obtain ⟨c1, f1⟩ := h1.cells; have z1a := h1.z (n := w.heap.size) (by first | assumption | (simp; done) | (simp; assumption) | (simp; omega)); have z1b := h1.z (n := w.heap.size + 1) (by first | assumption | (simp; done) | (simp; assumption) | (simp; omega)); have z1c := h1.z (n := w.heap.size + 1 + 1) (by first | assumption | (simp; done) | (simp; assumption) | (simp; omega))) | (go_at_call 58; refine (whole64_any _ _ _ (by omega) (by omega) hn hn' _).mono ?_; rintro e w' ⟨rfl, rfl⟩))
  all_goals go_light
  all_goals first | (refine bodyPost_ret (v := ?_) ?_ rfl ?_; rotate_left 1; focus (simp [results, Try.results53, go_sem, *]; (try rfl); done)) | go_returns
  all_goals exact ⟨ret_valok (by (try subst_vars); simp (disch := omega) [twoL, noneL, if_neg, *]), by (repeat' first | with_reducible exact Fresh.refl _ | with_reducible assumption | with_reducible refine Fresh.alloc ?_ _ _ | with_reducible refine Fresh.drew ?_ | with_reducible refine Fresh.setCell ?_ ?_ _ | with_reducible refine Fresh.trans ?_ (by assumption) | (simp; done) | (simp; omega))⟩
set_option maxHeartbeats 2000000 in
theorem pointers_any (o k n b k' n' b' : Int) (hn : 0 ≤ n) (hn' : 0 ≤ n') (w : World) :
    Calls Try.prog 33 #[.int .i64 o, .agg #[.int .i64 k, .int .u64 n, .int .i64 b], .agg #[.int .i64 k', .int .u64 n', .int .i64 b']] w fun e w' => e = .returned (.tuple #[.agg #[.int .i64 (pointersL o k n b k' n' b').1.1, .int .u64 (pointersL o k n b k' n' b').1.2.1, .int .i64 (pointersL o k n b k' n' b').1.2.2], .bool (pointersL o k n b k' n' b').2]) ∧ Fresh w w' := by
  go_enter Try.func33, Try.ntmps33
  go_wp2_with (first | (go_at_call 52; refine (nowhere_any _ _ _ _).mono ?_; rintro e w1 ⟨rfl, h1⟩; obtain ⟨c1, f1⟩ := h1.cells; have z1a := h1.z (n := w.heap.size) (by first | assumption | (simp; done) | (simp; assumption) | (simp; omega)); have z1b := h1.z (n := w.heap.size + 1) (by first | assumption | (simp; done) | (simp; assumption) | (simp; omega)); have z1c := h1.z (n := w.heap.size + 1 + 1) (by first | assumption | (simp; done) | (simp; assumption) | (simp; omega))) | (go_at_call 53; refine (two_any _ _ _ _ _ _ _ hn hn' _).mono ?_; rintro e w2 ⟨rfl, h2⟩; obtain ⟨c2, f2⟩ := h2.cells; have z2a := h2.z (n := w.heap.size) (by first | assumption | (simp; done) | (simp; assumption) | (simp; omega)); have z2b := h2.z (n := w.heap.size + 1) (by first | assumption | (simp; done) | (simp; assumption) | (simp; omega)); have z2c := h2.z (n := w.heap.size + 1 + 1) (by first | assumption | (simp; done) | (simp; assumption) | (simp; omega))) | (go_at_call 54; refine (pal_any _ _ _ _ _ _).mono ?_; rintro e w3 ⟨rfl, h3⟩; obtain ⟨c3, f3⟩ := h3.cells; have z3a := h3.z (n := w.heap.size) (by first | assumption | (simp; done) | (simp; assumption) | (simp; omega)); have z3b := h3.z (n := w.heap.size + 1) (by first | assumption | (simp; done) | (simp; assumption) | (simp; omega)); have z3c := h3.z (n := w.heap.size + 1 + 1) (by first | assumption | (simp; done) | (simp; assumption) | (simp; omega))))
  all_goals go_light
  all_goals first | (refine bodyPost_ret (v := ?_) ?_ rfl ?_; rotate_left 1; focus (simp [results, Try.results33, go_sem, *]; (try rfl); done)) | go_returns
  all_goals exact ⟨ret_valok (by (try subst_vars); simp [pointersL, noneL, *]), by (repeat' first | with_reducible exact Fresh.refl _ | with_reducible assumption | with_reducible refine Fresh.alloc ?_ _ _ | with_reducible refine Fresh.drew ?_ | with_reducible refine Fresh.setCell ?_ ?_ _ | with_reducible refine Fresh.trans ?_ (by assumption) | (simp; done) | (simp; omega))⟩
end Go.Proofs.Ytopnbdblgfjnpaa
