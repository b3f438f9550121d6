/- What the document's own answer gives of two operands with a pointer among them. -/
import Derived.Test.YtopnbdblgfjnpaaU
import Derived.Test.YtopnbdblgfjnpaaE
import Derived.Deep.RegionHeld3
namespace Go.Proofs.Ytopnbdblgfjnpaa
set_option linter.unusedSimpArgs false
set_option linter.unusedVariables false
open Go.RowKit
set_option maxRecDepth 100000 in
set_option maxHeartbeats 2000000 in
theorem rp_c1 (o n k' n' b' : Int) (w : World) :
    Calls Try.prog 36 #[.int .i64 o, .agg #[.int .i64 4, .int .u64 n, .int .i64 0], .agg #[.int .i64 k', .int .u64 n', .int .i64 b']] w fun e w' => e = .returned (.tuple #[.agg #[.int .i64 (noneL).1.1, .int .u64 (noneL).1.2.1, .int .i64 (noneL).1.2.2], .bool (noneL).2]) ∧ Fresh w w' := by
  go_enter Try.func36, Try.ntmps36
  go_wp2_with fail
  all_goals (try go_wp2_with ((go_at_call 42; refine (yes_any _ _).mono ?_; rintro e w1 ⟨rfl, h1⟩; obtain ⟨c1, f1⟩ := h1.cells)))
  all_goals go_light
  all_goals first | (refine bodyPost_ret (v := ?_) ?_ rfl ?_; rotate_left 1; focus (simp [results, Try.results36, go_sem, *]; (try rfl); done)) | go_returns
  all_goals exact ⟨ret_valok (by rfl), by (repeat' first | with_reducible exact Fresh.refl _ | with_reducible assumption | with_reducible refine Fresh.alloc ?_ _ _ | with_reducible refine Fresh.drew ?_ | with_reducible refine Fresh.setCell ?_ ?_ _ | with_reducible refine Fresh.trans ?_ (by assumption) | (simp; done) | (simp; omega))⟩
set_option maxRecDepth 100000 in
set_option maxHeartbeats 2000000 in
theorem rp_c2a (o n b n' : Int) (h : (b == 0) = false) (w : World) :
    Calls Try.prog 36 #[.int .i64 o, .agg #[.int .i64 4, .int .u64 n, .int .i64 b], .agg #[.int .i64 4, .int .u64 n', .int .i64 0]] w fun e w' => e = .returned (.tuple #[.agg #[.int .i64 (noneL).1.1, .int .u64 (noneL).1.2.1, .int .i64 (noneL).1.2.2], .bool (noneL).2]) ∧ Fresh w w' := by
  go_enter Try.func36, Try.ntmps36
  go_wp2_with fail
  all_goals (try go_wp2_with ((go_at_call 42; refine (yes_any _ _).mono ?_; rintro e w1 ⟨rfl, h1⟩; obtain ⟨c1, f1⟩ := h1.cells)))
  all_goals go_light
  all_goals first | (refine bodyPost_ret (v := ?_) ?_ rfl ?_; rotate_left 1; focus (simp [results, Try.results36, go_sem, *]; (try rfl); done)) | go_returns
  all_goals exact ⟨ret_valok (by rfl), by (repeat' first | with_reducible exact Fresh.refl _ | with_reducible assumption | with_reducible refine Fresh.alloc ?_ _ _ | with_reducible refine Fresh.drew ?_ | with_reducible refine Fresh.setCell ?_ ?_ _ | with_reducible refine Fresh.trans ?_ (by assumption) | (simp; done) | (simp; omega))⟩
set_option maxRecDepth 100000 in
set_option maxHeartbeats 2000000 in
theorem rp_c2b (o k n b n' : Int) (h : (k == 4) = false) (w : World) :
    Calls Try.prog 36 #[.int .i64 o, .agg #[.int .i64 k, .int .u64 n, .int .i64 b], .agg #[.int .i64 4, .int .u64 n', .int .i64 0]] w fun e w' => e = .returned (.tuple #[.agg #[.int .i64 (noneL).1.1, .int .u64 (noneL).1.2.1, .int .i64 (noneL).1.2.2], .bool (noneL).2]) ∧ Fresh w w' := by
  go_enter Try.func36, Try.ntmps36
  go_wp2_with fail
  all_goals (try go_wp2_with ((go_at_call 42; refine (yes_any _ _).mono ?_; rintro e w1 ⟨rfl, h1⟩; obtain ⟨c1, f1⟩ := h1.cells)))
  all_goals go_light
  all_goals first | (refine bodyPost_ret (v := ?_) ?_ rfl ?_; rotate_left 1; focus (simp [results, Try.results36, go_sem, *]; (try rfl); done)) | go_returns
  all_goals exact ⟨ret_valok (by rfl), by (repeat' first | with_reducible exact Fresh.refl _ | with_reducible assumption | with_reducible refine Fresh.alloc ?_ _ _ | with_reducible refine Fresh.drew ?_ | with_reducible refine Fresh.setCell ?_ ?_ _ | with_reducible refine Fresh.trans ?_ (by assumption) | (simp; done) | (simp; omega))⟩
set_option maxRecDepth 100000 in
set_option maxHeartbeats 2000000 in
theorem rp_c3 (o n b n' b' : Int) (h : (b == 0) = false) (h' : (b' == 0) = false) (h2 : (b != b') = true) (w : World) :
    Calls Try.prog 36 #[.int .i64 o, .agg #[.int .i64 4, .int .u64 n, .int .i64 b], .agg #[.int .i64 4, .int .u64 n', .int .i64 b']] w fun e w' => e = .returned (.tuple #[.agg #[.int .i64 (noneL).1.1, .int .u64 (noneL).1.2.1, .int .i64 (noneL).1.2.2], .bool (noneL).2]) ∧ Fresh w w' := by
  go_enter Try.func36, Try.ntmps36
  go_wp2_with fail
  all_goals (try go_wp2_with ((go_at_call 42; refine (yes_any _ _).mono ?_; rintro e w1 ⟨rfl, h1⟩; obtain ⟨c1, f1⟩ := h1.cells)))
  all_goals go_light
  all_goals first | (refine bodyPost_ret (v := ?_) ?_ rfl ?_; rotate_left 1; focus (simp [results, Try.results36, go_sem, *]; (try rfl); done)) | go_returns
  all_goals exact ⟨ret_valok (by rfl), by (repeat' first | with_reducible exact Fresh.refl _ | with_reducible assumption | with_reducible refine Fresh.alloc ?_ _ _ | with_reducible refine Fresh.drew ?_ | with_reducible refine Fresh.setCell ?_ ?_ _ | with_reducible refine Fresh.trans ?_ (by assumption) | (simp; done) | (simp; omega))⟩
set_option maxRecDepth 100000 in
set_option maxHeartbeats 2000000 in
theorem rp_c4s (n n' b : Int) (h : (b == 0) = false) (w : World) :
    Calls Try.prog 36 #[.int .i64 4, .agg #[.int .i64 4, .int .u64 n, .int .i64 b], .agg #[.int .i64 4, .int .u64 n', .int .i64 b]] w fun e w' => e = .returned (.tuple #[.agg #[.int .i64 ((longL (wrap64 (wrap64 n - wrap64 n')), true)).1.1, .int .u64 ((longL (wrap64 (wrap64 n - wrap64 n')), true)).1.2.1, .int .i64 ((longL (wrap64 (wrap64 n - wrap64 n')), true)).1.2.2], .bool ((longL (wrap64 (wrap64 n - wrap64 n')), true)).2]) ∧ Fresh w w' := by
  go_enter Try.func36, Try.ntmps36
  go_wp2_with fail
  all_goals go_region_held3 (fun w' => w'.cell? ⟨w.heap.size, 0, none⟩ = some (.int .i64 4) ∧ w'.cell? ⟨w.heap.size, 1, none⟩ = some (.int .u64 n) ∧ w'.cell? ⟨w.heap.size, 2, none⟩ = some (.int .i64 b) ∧ w'.cell? ⟨w.heap.size + 1, 0, none⟩ = some (.int .i64 4) ∧ w'.cell? ⟨w.heap.size + 1, 1, none⟩ = some (.int .u64 n') ∧ w'.cell? ⟨w.heap.size + 1, 2, none⟩ = some (.int .i64 b))
    (simp [go_sem, *])
    (first | (go_at_call 39; refine (ri64_any _ _ _ _).mono ?_; rintro e w' ⟨rfl, rfl⟩) | (go_at_call 27; refine (rLong_any _ _).mono ?_; rintro e w1 ⟨rfl, h1⟩; obtain ⟨c1, f1⟩ := h1.cells))
  all_goals (try go_wp2_with ((go_at_call 42; refine (yes_any _ _).mono ?_; rintro e w1 ⟨rfl, h1⟩; obtain ⟨c1, f1⟩ := h1.cells)))
  all_goals go_light
  all_goals first | (refine bodyPost_ret (v := ?_) ?_ rfl ?_; rotate_left 1; focus (simp [results, Try.results36, go_sem, *]; (try rfl); done)) | go_returns
  all_goals exact ⟨by simp [IntWalk.i64_left], by (repeat' first | with_reducible exact Fresh.refl _ | with_reducible assumption | with_reducible refine Fresh.alloc ?_ _ _ | with_reducible refine Fresh.drew ?_ | with_reducible refine Fresh.setCell ?_ ?_ _ | with_reducible refine Fresh.trans ?_ (by assumption) | (simp; done) | (simp; omega))⟩
set_option maxRecDepth 100000 in
set_option maxHeartbeats 2000000 in
theorem rp_c4u (o n n' b : Int) (h : (b == 0) = false) (h1 : 22 ≤ o) (h2 : o ≤ 25) (ho4 : (o == 4) = false) (w : World) :
    Calls Try.prog 36 #[.int .i64 o, .agg #[.int .i64 4, .int .u64 n, .int .i64 b], .agg #[.int .i64 4, .int .u64 n', .int .i64 b]] w fun e w' => e = .returned (.tuple #[.agg #[.int .i64 (((1, flagL (comparedL o (decide (n < n')) (n == n')), 0), true)).1.1, .int .u64 (((1, flagL (comparedL o (decide (n < n')) (n == n')), 0), true)).1.2.1, .int .i64 (((1, flagL (comparedL o (decide (n < n')) (n == n')), 0), true)).1.2.2], .bool (((1, flagL (comparedL o (decide (n < n')) (n == n')), 0), true)).2]) ∧ Fresh w w' := by
  go_enter Try.func36, Try.ntmps36
  go_wp2_with fail
  all_goals (try go_wp2_with (first | (go_at_call 43; refine (compared_any _ _ _ _).mono ?_; rintro e w' ⟨rfl, rfl⟩) | (go_at_call 42; refine (yes_any _ _).mono ?_; rintro e w1 ⟨rfl, h1⟩; obtain ⟨c1, f1⟩ := h1.cells)))
  all_goals (try go_wp2_with ((go_at_call 42; refine (yes_any _ _).mono ?_; rintro e w1 ⟨rfl, h1⟩; obtain ⟨c1, f1⟩ := h1.cells)))
  all_goals go_light
  all_goals first | (refine bodyPost_ret (v := ?_) ?_ rfl ?_; rotate_left 1; focus (simp [results, Try.results36, go_sem, *]; (try rfl); done)) | go_returns
  all_goals exact ⟨ret_valok (by rfl), by (repeat' first | with_reducible exact Fresh.refl _ | with_reducible assumption | with_reducible refine Fresh.alloc ?_ _ _ | with_reducible refine Fresh.drew ?_ | with_reducible refine Fresh.setCell ?_ ?_ _ | with_reducible refine Fresh.trans ?_ (by assumption) | (simp; done) | (simp; omega))⟩
set_option maxRecDepth 100000 in
set_option maxHeartbeats 2000000 in
theorem rp_c4c (o n n' b : Int) (h : (b == 0) = false) (h1 : 16 ≤ o) (h2 : o ≤ 21) (ho4 : (o == 4) = false) (w : World) :
    Calls Try.prog 36 #[.int .i64 o, .agg #[.int .i64 4, .int .u64 n, .int .i64 b], .agg #[.int .i64 4, .int .u64 n', .int .i64 b]] w fun e w' => e = .returned (.tuple #[.agg #[.int .i64 (((1, flagL (comparedL o (decide (wrap64 n < wrap64 n')) (n == n')), 0), true)).1.1, .int .u64 (((1, flagL (comparedL o (decide (wrap64 n < wrap64 n')) (n == n')), 0), true)).1.2.1, .int .i64 (((1, flagL (comparedL o (decide (wrap64 n < wrap64 n')) (n == n')), 0), true)).1.2.2], .bool (((1, flagL (comparedL o (decide (wrap64 n < wrap64 n')) (n == n')), 0), true)).2]) ∧ Fresh w w' := by
  go_enter Try.func36, Try.ntmps36
  go_wp2_with fail
  all_goals go_region_held3 (fun w' => w'.cell? ⟨w.heap.size, 0, none⟩ = some (.int .i64 4) ∧ w'.cell? ⟨w.heap.size, 1, none⟩ = some (.int .u64 n) ∧ w'.cell? ⟨w.heap.size, 2, none⟩ = some (.int .i64 b) ∧ w'.cell? ⟨w.heap.size + 1, 0, none⟩ = some (.int .i64 4) ∧ w'.cell? ⟨w.heap.size + 1, 1, none⟩ = some (.int .u64 n') ∧ w'.cell? ⟨w.heap.size + 1, 2, none⟩ = some (.int .i64 b))
    (simp [go_sem, *])
    (first | (go_at_call 39; refine (ri64_any _ _ _ _).mono ?_; rintro e w' ⟨rfl, rfl⟩) | (go_at_call 43; refine (compared_any _ _ _ _).mono ?_; rintro e w' ⟨rfl, rfl⟩) | (go_at_call 42; refine (yes_any _ _).mono ?_; rintro e w1 ⟨rfl, h1⟩; obtain ⟨c1, f1⟩ := h1.cells))
  all_goals (try go_wp2_with ((go_at_call 42; refine (yes_any _ _).mono ?_; rintro e w1 ⟨rfl, h1⟩; obtain ⟨c1, f1⟩ := h1.cells)))
  all_goals go_light
  all_goals first | (refine bodyPost_ret (v := ?_) ?_ rfl ?_; rotate_left 1; focus (simp [results, Try.results36, go_sem, *]; (try rfl); done)) | go_returns
  all_goals exact ⟨ret_valok (by rfl), by (repeat' first | with_reducible exact Fresh.refl _ | with_reducible assumption | with_reducible refine Fresh.alloc ?_ _ _ | with_reducible refine Fresh.drew ?_ | with_reducible refine Fresh.setCell ?_ ?_ _ | with_reducible refine Fresh.trans ?_ (by assumption) | (simp; done) | (simp; omega))⟩
set_option maxRecDepth 100000 in
set_option maxHeartbeats 2000000 in
theorem rp_c4n (o n n' b : Int) (h : (b == 0) = false) (h2 : o < 16) (ho4 : (o == 4) = false) (w : World) :
    Calls Try.prog 36 #[.int .i64 o, .agg #[.int .i64 4, .int .u64 n, .int .i64 b], .agg #[.int .i64 4, .int .u64 n', .int .i64 b]] w fun e w' => e = .returned (.tuple #[.agg #[.int .i64 (noneL).1.1, .int .u64 (noneL).1.2.1, .int .i64 (noneL).1.2.2], .bool (noneL).2]) ∧ Fresh w w' := by
  go_enter Try.func36, Try.ntmps36
  go_wp2_with fail
  all_goals (try go_wp2_with ((go_at_call 42; refine (yes_any _ _).mono ?_; rintro e w1 ⟨rfl, h1⟩; obtain ⟨c1, f1⟩ := h1.cells)))
  all_goals go_light
  all_goals first | (refine bodyPost_ret (v := ?_) ?_ rfl ?_; rotate_left 1; focus (simp [results, Try.results36, go_sem, *]; (try rfl); done)) | go_returns
  all_goals exact ⟨ret_valok (by rfl), by (repeat' first | with_reducible exact Fresh.refl _ | with_reducible assumption | with_reducible refine Fresh.alloc ?_ _ _ | with_reducible refine Fresh.drew ?_ | with_reducible refine Fresh.setCell ?_ ?_ _ | with_reducible refine Fresh.trans ?_ (by assumption) | (simp; done) | (simp; omega))⟩
set_option maxRecDepth 100000 in
set_option maxHeartbeats 2000000 in
theorem rp_c5k (o n b k' n' b' : Int) (h : (b == 0) = false) (hk : (k' == 4) = false) (hk2 : (k' != 2) = true) (w : World) :
    Calls Try.prog 36 #[.int .i64 o, .agg #[.int .i64 4, .int .u64 n, .int .i64 b], .agg #[.int .i64 k', .int .u64 n', .int .i64 b']] w fun e w' => e = .returned (.tuple #[.agg #[.int .i64 (noneL).1.1, .int .u64 (noneL).1.2.1, .int .i64 (noneL).1.2.2], .bool (noneL).2]) ∧ Fresh w w' := by
  go_enter Try.func36, Try.ntmps36
  go_wp2_with fail
  all_goals go_region_held3 (fun w' => w'.cell? ⟨w.heap.size, 0, none⟩ = some (.int .i64 4) ∧ w'.cell? ⟨w.heap.size, 1, none⟩ = some (.int .u64 n) ∧ w'.cell? ⟨w.heap.size, 2, none⟩ = some (.int .i64 b) ∧ w'.cell? ⟨w.heap.size + 1, 0, none⟩ = some (.int .i64 k') ∧ w'.cell? ⟨w.heap.size + 1, 1, none⟩ = some (.int .u64 n') ∧ w'.cell? ⟨w.heap.size + 1, 2, none⟩ = some (.int .i64 b'))
    (simp [go_sem, *])
    (first | fail)
  all_goals (try go_wp2_with fail)
  all_goals (try go_wp2_with ((go_at_call 42; refine (yes_any _ _).mono ?_; rintro e w1 ⟨rfl, h1⟩; obtain ⟨c1, f1⟩ := h1.cells)))
  all_goals go_light
  all_goals first | (refine bodyPost_ret (v := ?_) ?_ rfl ?_; rotate_left 1; focus (simp [results, Try.results36, go_sem, *]; (try rfl); done)) | go_returns
  all_goals exact ⟨ret_valok (by rfl), by (repeat' first | with_reducible exact Fresh.refl _ | with_reducible assumption | with_reducible refine Fresh.alloc ?_ _ _ | with_reducible refine Fresh.drew ?_ | with_reducible refine Fresh.setCell ?_ ?_ _ | with_reducible refine Fresh.trans ?_ (by assumption) | (simp; done) | (simp; omega))⟩
set_option maxRecDepth 100000 in
set_option maxHeartbeats 2000000 in
theorem rp_c5a (n b n' b' : Int) (h : (b == 0) = false) (w : World) :
    Calls Try.prog 36 #[.int .i64 3, .agg #[.int .i64 4, .int .u64 n, .int .i64 b], .agg #[.int .i64 2, .int .u64 n', .int .i64 b']] w fun e w' => e = .returned (.tuple #[.agg #[.int .i64 ((ptrL b (wrap64 (wrap64 n + wrap64 n')), true)).1.1, .int .u64 ((ptrL b (wrap64 (wrap64 n + wrap64 n')), true)).1.2.1, .int .i64 ((ptrL b (wrap64 (wrap64 n + wrap64 n')), true)).1.2.2], .bool ((ptrL b (wrap64 (wrap64 n + wrap64 n')), true)).2]) ∧ Fresh w w' := by
  go_enter Try.func36, Try.ntmps36
  go_wp2_with fail
  all_goals go_region_held3 (fun w' => w'.cell? ⟨w.heap.size, 0, none⟩ = some (.int .i64 4) ∧ w'.cell? ⟨w.heap.size, 1, none⟩ = some (.int .u64 n) ∧ w'.cell? ⟨w.heap.size, 2, none⟩ = some (.int .i64 b) ∧ w'.cell? ⟨w.heap.size + 1, 0, none⟩ = some (.int .i64 2) ∧ w'.cell? ⟨w.heap.size + 1, 1, none⟩ = some (.int .u64 n') ∧ w'.cell? ⟨w.heap.size + 1, 2, none⟩ = some (.int .i64 b'))
    (simp [go_sem, *])
    (first | fail)
  all_goals (try go_wp2_with fail)
  all_goals first
    | (go_region_held3 (fun w' => w'.cell? ⟨w.heap.size + 1 + 1 + 1, 0, none⟩ = some (.int .i64 4) ∧ w'.cell? ⟨w.heap.size + 1 + 1 + 1, 1, none⟩ = some (.int .u64 n) ∧ w'.cell? ⟨w.heap.size + 1 + 1 + 1, 2, none⟩ = some (.int .i64 b) ∧ w'.cell? ⟨w.heap.size + 1 + 1 + 1 + 1, 0, none⟩ = some (.int .i64 2) ∧ w'.cell? ⟨w.heap.size + 1 + 1 + 1 + 1, 1, none⟩ = some (.int .u64 n') ∧ w'.cell? ⟨w.heap.size + 1 + 1 + 1 + 1, 2, none⟩ = some (.int .i64 b'))
        (simp [go_sem, *])
        (first | (go_at_call 39; refine (ri64_any _ _ _ _).mono ?_; rintro e w' ⟨rfl, rfl⟩) | (go_at_call 31; refine (rPtr_any _ _ _).mono ?_; rintro e w1 ⟨rfl, h1⟩; obtain ⟨c1, f1⟩ := h1.cells)))
    | (go_region_held3 (fun w' => w'.cell? ⟨w.heap.size + 1 + 1 + 1 + 1, 0, none⟩ = some (.int .i64 4) ∧ w'.cell? ⟨w.heap.size + 1 + 1 + 1 + 1, 1, none⟩ = some (.int .u64 n) ∧ w'.cell? ⟨w.heap.size + 1 + 1 + 1 + 1, 2, none⟩ = some (.int .i64 b) ∧ w'.cell? ⟨w.heap.size + 1 + 1 + 1, 0, none⟩ = some (.int .i64 2) ∧ w'.cell? ⟨w.heap.size + 1 + 1 + 1, 1, none⟩ = some (.int .u64 n') ∧ w'.cell? ⟨w.heap.size + 1 + 1 + 1, 2, none⟩ = some (.int .i64 b'))
        (simp [go_sem, *])
        (first | (go_at_call 39; refine (ri64_any _ _ _ _).mono ?_; rintro e w' ⟨rfl, rfl⟩) | (go_at_call 31; refine (rPtr_any _ _ _).mono ?_; rintro e w1 ⟨rfl, h1⟩; obtain ⟨c1, f1⟩ := h1.cells)))
  all_goals (try go_wp2_with ((go_at_call 42; refine (yes_any _ _).mono ?_; rintro e w1 ⟨rfl, h1⟩; obtain ⟨c1, f1⟩ := h1.cells)))
  all_goals go_light
  all_goals first | (refine bodyPost_ret (v := ?_) ?_ rfl ?_; rotate_left 1; focus (simp [results, Try.results36, go_sem, *]; (try rfl); done)) | go_returns
  all_goals exact ⟨by simp [IntWalk.i64_left], by (repeat' first | with_reducible exact Fresh.refl _ | with_reducible assumption | with_reducible refine Fresh.alloc ?_ _ _ | with_reducible refine Fresh.drew ?_ | with_reducible refine Fresh.setCell ?_ ?_ _ | with_reducible refine Fresh.trans ?_ (by assumption) | (simp; done) | (simp; omega))⟩
set_option maxRecDepth 100000 in
set_option maxHeartbeats 2000000 in
theorem rp_c5s (n b n' b' : Int) (h : (b == 0) = false) (w : World) :
    Calls Try.prog 36 #[.int .i64 4, .agg #[.int .i64 4, .int .u64 n, .int .i64 b], .agg #[.int .i64 2, .int .u64 n', .int .i64 b']] w fun e w' => e = .returned (.tuple #[.agg #[.int .i64 ((ptrL b (wrap64 (wrap64 n - wrap64 n')), true)).1.1, .int .u64 ((ptrL b (wrap64 (wrap64 n - wrap64 n')), true)).1.2.1, .int .i64 ((ptrL b (wrap64 (wrap64 n - wrap64 n')), true)).1.2.2], .bool ((ptrL b (wrap64 (wrap64 n - wrap64 n')), true)).2]) ∧ Fresh w w' := by
  go_enter Try.func36, Try.ntmps36
  go_wp2_with fail
  all_goals go_region_held3 (fun w' => w'.cell? ⟨w.heap.size, 0, none⟩ = some (.int .i64 4) ∧ w'.cell? ⟨w.heap.size, 1, none⟩ = some (.int .u64 n) ∧ w'.cell? ⟨w.heap.size, 2, none⟩ = some (.int .i64 b) ∧ w'.cell? ⟨w.heap.size + 1, 0, none⟩ = some (.int .i64 2) ∧ w'.cell? ⟨w.heap.size + 1, 1, none⟩ = some (.int .u64 n') ∧ w'.cell? ⟨w.heap.size + 1, 2, none⟩ = some (.int .i64 b'))
    (simp [go_sem, *])
    (first | fail)
  all_goals (try go_wp2_with fail)
  all_goals first
    | (go_region_held3 (fun w' => w'.cell? ⟨w.heap.size + 1 + 1 + 1, 0, none⟩ = some (.int .i64 4) ∧ w'.cell? ⟨w.heap.size + 1 + 1 + 1, 1, none⟩ = some (.int .u64 n) ∧ w'.cell? ⟨w.heap.size + 1 + 1 + 1, 2, none⟩ = some (.int .i64 b) ∧ w'.cell? ⟨w.heap.size + 1 + 1 + 1 + 1, 0, none⟩ = some (.int .i64 2) ∧ w'.cell? ⟨w.heap.size + 1 + 1 + 1 + 1, 1, none⟩ = some (.int .u64 n') ∧ w'.cell? ⟨w.heap.size + 1 + 1 + 1 + 1, 2, none⟩ = some (.int .i64 b'))
        (simp [go_sem, *])
        (first | (go_at_call 39; refine (ri64_any _ _ _ _).mono ?_; rintro e w' ⟨rfl, rfl⟩) | (go_at_call 31; refine (rPtr_any _ _ _).mono ?_; rintro e w1 ⟨rfl, h1⟩; obtain ⟨c1, f1⟩ := h1.cells)))
    | (go_region_held3 (fun w' => w'.cell? ⟨w.heap.size + 1 + 1 + 1 + 1, 0, none⟩ = some (.int .i64 4) ∧ w'.cell? ⟨w.heap.size + 1 + 1 + 1 + 1, 1, none⟩ = some (.int .u64 n) ∧ w'.cell? ⟨w.heap.size + 1 + 1 + 1 + 1, 2, none⟩ = some (.int .i64 b) ∧ w'.cell? ⟨w.heap.size + 1 + 1 + 1, 0, none⟩ = some (.int .i64 2) ∧ w'.cell? ⟨w.heap.size + 1 + 1 + 1, 1, none⟩ = some (.int .u64 n') ∧ w'.cell? ⟨w.heap.size + 1 + 1 + 1, 2, none⟩ = some (.int .i64 b'))
        (simp [go_sem, *])
        (first | (go_at_call 39; refine (ri64_any _ _ _ _).mono ?_; rintro e w' ⟨rfl, rfl⟩) | (go_at_call 31; refine (rPtr_any _ _ _).mono ?_; rintro e w1 ⟨rfl, h1⟩; obtain ⟨c1, f1⟩ := h1.cells)))
  all_goals (try go_wp2_with ((go_at_call 42; refine (yes_any _ _).mono ?_; rintro e w1 ⟨rfl, h1⟩; obtain ⟨c1, f1⟩ := h1.cells)))
  all_goals go_light
  all_goals first | (refine bodyPost_ret (v := ?_) ?_ rfl ?_; rotate_left 1; focus (simp [results, Try.results36, go_sem, *]; (try rfl); done)) | go_returns
  all_goals exact ⟨by simp [IntWalk.i64_left], by (repeat' first | with_reducible exact Fresh.refl _ | with_reducible assumption | with_reducible refine Fresh.alloc ?_ _ _ | with_reducible refine Fresh.drew ?_ | with_reducible refine Fresh.setCell ?_ ?_ _ | with_reducible refine Fresh.trans ?_ (by assumption) | (simp; done) | (simp; omega))⟩
set_option maxRecDepth 100000 in
set_option maxHeartbeats 2000000 in
theorem rp_c5e16 (n b b' : Int) (h : (b == 0) = false) (w : World) :
    Calls Try.prog 36 #[.int .i64 16, .agg #[.int .i64 4, .int .u64 n, .int .i64 b], .agg #[.int .i64 2, .int .u64 0, .int .i64 b']] w fun e w' => e = .returned (.tuple #[.agg #[.int .i64 (((1, 0, 0), true)).1.1, .int .u64 (((1, 0, 0), true)).1.2.1, .int .i64 (((1, 0, 0), true)).1.2.2], .bool (((1, 0, 0), true)).2]) ∧ Fresh w w' := by
  go_enter Try.func36, Try.ntmps36
  go_wp2_with fail
  all_goals go_region_held3 (fun w' => w'.cell? ⟨w.heap.size, 0, none⟩ = some (.int .i64 4) ∧ w'.cell? ⟨w.heap.size, 1, none⟩ = some (.int .u64 n) ∧ w'.cell? ⟨w.heap.size, 2, none⟩ = some (.int .i64 b) ∧ w'.cell? ⟨w.heap.size + 1, 0, none⟩ = some (.int .i64 2) ∧ w'.cell? ⟨w.heap.size + 1, 1, none⟩ = some (.int .u64 0) ∧ w'.cell? ⟨w.heap.size + 1, 2, none⟩ = some (.int .i64 b'))
    (simp [go_sem, *])
    (first | fail)
  all_goals (try go_wp2_with ((go_at_call 42; refine (yes_any _ _).mono ?_; rintro e w1 ⟨rfl, h1⟩; obtain ⟨c1, f1⟩ := h1.cells)))
  all_goals go_light
  all_goals first | (refine bodyPost_ret (v := ?_) ?_ rfl ?_; rotate_left 1; focus (simp [results, Try.results36, go_sem, *]; (try rfl); done)) | go_returns
  all_goals exact ⟨ret_valok (by rfl), by (repeat' first | with_reducible exact Fresh.refl _ | with_reducible assumption | with_reducible refine Fresh.alloc ?_ _ _ | with_reducible refine Fresh.drew ?_ | with_reducible refine Fresh.setCell ?_ ?_ _ | with_reducible refine Fresh.trans ?_ (by assumption) | (simp; done) | (simp; omega))⟩
set_option maxRecDepth 100000 in
set_option maxHeartbeats 2000000 in
theorem rp_c5f16 (n b n' b' : Int) (h : (b == 0) = false) (hn : (n' == 0) = false) (w : World) :
    Calls Try.prog 36 #[.int .i64 16, .agg #[.int .i64 4, .int .u64 n, .int .i64 b], .agg #[.int .i64 2, .int .u64 n', .int .i64 b']] w fun e w' => e = .returned (.tuple #[.agg #[.int .i64 (noneL).1.1, .int .u64 (noneL).1.2.1, .int .i64 (noneL).1.2.2], .bool (noneL).2]) ∧ Fresh w w' := by
  go_enter Try.func36, Try.ntmps36
  go_wp2_with fail
  all_goals go_region_held3 (fun w' => w'.cell? ⟨w.heap.size, 0, none⟩ = some (.int .i64 4) ∧ w'.cell? ⟨w.heap.size, 1, none⟩ = some (.int .u64 n) ∧ w'.cell? ⟨w.heap.size, 2, none⟩ = some (.int .i64 b) ∧ w'.cell? ⟨w.heap.size + 1, 0, none⟩ = some (.int .i64 2) ∧ w'.cell? ⟨w.heap.size + 1, 1, none⟩ = some (.int .u64 n') ∧ w'.cell? ⟨w.heap.size + 1, 2, none⟩ = some (.int .i64 b'))
    (simp [go_sem, *])
    (first | fail)
  all_goals (try go_wp2_with ((go_at_call 42; refine (yes_any _ _).mono ?_; rintro e w1 ⟨rfl, h1⟩; obtain ⟨c1, f1⟩ := h1.cells)))
  all_goals go_light
  all_goals first | (refine bodyPost_ret (v := ?_) ?_ rfl ?_; rotate_left 1; focus (simp [results, Try.results36, go_sem, *]; (try rfl); done)) | go_returns
  all_goals exact ⟨ret_valok (by rfl), by (repeat' first | with_reducible exact Fresh.refl _ | with_reducible assumption | with_reducible refine Fresh.alloc ?_ _ _ | with_reducible refine Fresh.drew ?_ | with_reducible refine Fresh.setCell ?_ ?_ _ | with_reducible refine Fresh.trans ?_ (by assumption) | (simp; done) | (simp; omega))⟩
set_option maxRecDepth 100000 in
set_option maxHeartbeats 2000000 in
theorem rp_c5e17 (n b b' : Int) (h : (b == 0) = false) (w : World) :
    Calls Try.prog 36 #[.int .i64 17, .agg #[.int .i64 4, .int .u64 n, .int .i64 b], .agg #[.int .i64 2, .int .u64 0, .int .i64 b']] w fun e w' => e = .returned (.tuple #[.agg #[.int .i64 (((1, 1, 0), true)).1.1, .int .u64 (((1, 1, 0), true)).1.2.1, .int .i64 (((1, 1, 0), true)).1.2.2], .bool (((1, 1, 0), true)).2]) ∧ Fresh w w' := by
  go_enter Try.func36, Try.ntmps36
  go_wp2_with fail
  all_goals go_region_held3 (fun w' => w'.cell? ⟨w.heap.size, 0, none⟩ = some (.int .i64 4) ∧ w'.cell? ⟨w.heap.size, 1, none⟩ = some (.int .u64 n) ∧ w'.cell? ⟨w.heap.size, 2, none⟩ = some (.int .i64 b) ∧ w'.cell? ⟨w.heap.size + 1, 0, none⟩ = some (.int .i64 2) ∧ w'.cell? ⟨w.heap.size + 1, 1, none⟩ = some (.int .u64 0) ∧ w'.cell? ⟨w.heap.size + 1, 2, none⟩ = some (.int .i64 b'))
    (simp [go_sem, *])
    (first | fail)
  all_goals (try go_wp2_with ((go_at_call 42; refine (yes_any _ _).mono ?_; rintro e w1 ⟨rfl, h1⟩; obtain ⟨c1, f1⟩ := h1.cells)))
  all_goals go_light
  all_goals first | (refine bodyPost_ret (v := ?_) ?_ rfl ?_; rotate_left 1; focus (simp [results, Try.results36, go_sem, *]; (try rfl); done)) | go_returns
  all_goals exact ⟨ret_valok (by rfl), by (repeat' first | with_reducible exact Fresh.refl _ | with_reducible assumption | with_reducible refine Fresh.alloc ?_ _ _ | with_reducible refine Fresh.drew ?_ | with_reducible refine Fresh.setCell ?_ ?_ _ | with_reducible refine Fresh.trans ?_ (by assumption) | (simp; done) | (simp; omega))⟩
set_option maxRecDepth 100000 in
set_option maxHeartbeats 2000000 in
theorem rp_c5f17 (n b n' b' : Int) (h : (b == 0) = false) (hn : (n' == 0) = false) (w : World) :
    Calls Try.prog 36 #[.int .i64 17, .agg #[.int .i64 4, .int .u64 n, .int .i64 b], .agg #[.int .i64 2, .int .u64 n', .int .i64 b']] w fun e w' => e = .returned (.tuple #[.agg #[.int .i64 (noneL).1.1, .int .u64 (noneL).1.2.1, .int .i64 (noneL).1.2.2], .bool (noneL).2]) ∧ Fresh w w' := by
  go_enter Try.func36, Try.ntmps36
  go_wp2_with fail
  all_goals go_region_held3 (fun w' => w'.cell? ⟨w.heap.size, 0, none⟩ = some (.int .i64 4) ∧ w'.cell? ⟨w.heap.size, 1, none⟩ = some (.int .u64 n) ∧ w'.cell? ⟨w.heap.size, 2, none⟩ = some (.int .i64 b) ∧ w'.cell? ⟨w.heap.size + 1, 0, none⟩ = some (.int .i64 2) ∧ w'.cell? ⟨w.heap.size + 1, 1, none⟩ = some (.int .u64 n') ∧ w'.cell? ⟨w.heap.size + 1, 2, none⟩ = some (.int .i64 b'))
    (simp [go_sem, *])
    (first | fail)
  all_goals (try go_wp2_with ((go_at_call 42; refine (yes_any _ _).mono ?_; rintro e w1 ⟨rfl, h1⟩; obtain ⟨c1, f1⟩ := h1.cells)))
  all_goals go_light
  all_goals first | (refine bodyPost_ret (v := ?_) ?_ rfl ?_; rotate_left 1; focus (simp [results, Try.results36, go_sem, *]; (try rfl); done)) | go_returns
  all_goals exact ⟨ret_valok (by rfl), by (repeat' first | with_reducible exact Fresh.refl _ | with_reducible assumption | with_reducible refine Fresh.alloc ?_ _ _ | with_reducible refine Fresh.drew ?_ | with_reducible refine Fresh.setCell ?_ ?_ _ | with_reducible refine Fresh.trans ?_ (by assumption) | (simp; done) | (simp; omega))⟩
set_option maxRecDepth 100000 in
set_option maxHeartbeats 2000000 in
theorem rp_c5n (o n b n' b' : Int) (h : (b == 0) = false) (h3 : (o == 3) = false) (h4 : (o == 4) = false) (h16 : (o == 16) = false) (h17 : (o == 17) = false) (w : World) :
    Calls Try.prog 36 #[.int .i64 o, .agg #[.int .i64 4, .int .u64 n, .int .i64 b], .agg #[.int .i64 2, .int .u64 n', .int .i64 b']] w fun e w' => e = .returned (.tuple #[.agg #[.int .i64 (noneL).1.1, .int .u64 (noneL).1.2.1, .int .i64 (noneL).1.2.2], .bool (noneL).2]) ∧ Fresh w w' := by
  go_enter Try.func36, Try.ntmps36
  go_wp2_with fail
  all_goals go_region_held3 (fun w' => w'.cell? ⟨w.heap.size, 0, none⟩ = some (.int .i64 4) ∧ w'.cell? ⟨w.heap.size, 1, none⟩ = some (.int .u64 n) ∧ w'.cell? ⟨w.heap.size, 2, none⟩ = some (.int .i64 b) ∧ w'.cell? ⟨w.heap.size + 1, 0, none⟩ = some (.int .i64 2) ∧ w'.cell? ⟨w.heap.size + 1, 1, none⟩ = some (.int .u64 n') ∧ w'.cell? ⟨w.heap.size + 1, 2, none⟩ = some (.int .i64 b'))
    (simp [go_sem, *])
    (first | fail)
  all_goals (try go_wp2_with ((go_at_call 42; refine (yes_any _ _).mono ?_; rintro e w1 ⟨rfl, h1⟩; obtain ⟨c1, f1⟩ := h1.cells)))
  all_goals go_light
  all_goals first | (refine bodyPost_ret (v := ?_) ?_ rfl ?_; rotate_left 1; focus (simp [results, Try.results36, go_sem, *]; (try rfl); done)) | go_returns
  all_goals exact ⟨ret_valok (by rfl), by (repeat' first | with_reducible exact Fresh.refl _ | with_reducible assumption | with_reducible refine Fresh.alloc ?_ _ _ | with_reducible refine Fresh.drew ?_ | with_reducible refine Fresh.setCell ?_ ?_ _ | with_reducible refine Fresh.trans ?_ (by assumption) | (simp; done) | (simp; omega))⟩
end Go.Proofs.Ytopnbdblgfjnpaa
