/- The document's own answer of an operation of two: whole numbers of 32 bits, comparisons, doubles. -/
import Derived.Test.YtopnbdblgfjnpaaW
import Derived.Deep.RegionHeld3
namespace Go.Proofs.Ytopnbdblgfjnpaa
set_option linter.unusedSimpArgs false
set_option linter.unusedVariables false
open Go.RowKit
theorem hidOf {p : Prop} (h : p) : Hid p := h
theorem int_ret {r m : Int} (h : r % 4294967296 = m) : intL (wrap32 (r % 4294967296)) = (1, m, 0) := by
  unfold intL wrap32
  have e : ((r % 4294967296 + 2147483648) % 4294967296 - 2147483648) % 4294967296 = m := by omega
  rw [e]
set_option maxRecDepth 100000 in
set_option maxHeartbeats 2000000 in
theorem re_w32 (o n b n' b' : Int) (hs : Hid (shapeL o = (1, 1, 1))) (ha : 3 ≤ o) (hb : o ≤ 12) (w : World) :
    Calls Try.prog 12 #[.int .i64 o, .agg #[.int .i64 1, .int .u64 n, .int .i64 b], .agg #[.int .i64 1, .int .u64 n', .int .i64 b']] w fun e w' => e = .returned (.tuple #[.agg #[.int .i64 (intAns (whole32 o (n % 4294967296) (n' % 4294967296))).1.1, .int .u64 (intAns (whole32 o (n % 4294967296) (n' % 4294967296))).1.2.1, .int .i64 (intAns (whole32 o (n % 4294967296) (n' % 4294967296))).1.2.2], .bool (intAns (whole32 o (n % 4294967296) (n' % 4294967296))).2]) ∧ Fresh w w' := by
  go_enter Try.func12, Try.ntmps12
  go_wp2_with (first | (go_at_call 21; refine (shapeR_of _ _ _ _ hs.out _).mono ?_; rintro e w' ⟨rfl, rfl⟩) | (go_at_call 45; refine (rwhole32_any _ _ _ ha hb _).mono ?_; rintro e w9 ⟨r32, rfl, hr, rfl⟩; have hR := hidOf hr; clear hr) | (go_at_call 29; refine (rInt_any _ _).mono ?_; rintro e w2 ⟨rfl, h2⟩; obtain ⟨c2, f2⟩ := h2.cells; have z2a := h2.z (n := w.heap.size) (by first | assumption | (simp; done) | (simp; assumption) | (simp; omega)); have z2b := h2.z (n := w.heap.size + 1) (by first | assumption | (simp; done) | (simp; assumption) | (simp; omega)); have z2c := h2.z (n := w.heap.size + 1 + 1) (by first | assumption | (simp; done) | (simp; assumption) | (simp; omega))))
  all_goals go_light
  all_goals first | (refine bodyPost_ret (v := ?_) ?_ rfl ?_; rotate_left 1; focus (simp [results, Try.results12, go_sem, *]; (try rfl); done)) | go_returns
  all_goals exact ⟨ret_valok (by have hR := hR.out; simp only [Bool.not_eq_true', Bool.not_eq_false'] at *; first | (simp_all [intAns, noneL]; done) | (rw [int_ret (hR ‹_›)]; simp_all [intAns])), by (repeat' first | with_reducible exact Fresh.refl _ | with_reducible assumption | with_reducible refine Fresh.alloc ?_ _ _ | with_reducible refine Fresh.drew ?_ | with_reducible refine Fresh.setCell ?_ ?_ _ | with_reducible refine Fresh.trans ?_ (by assumption) | (simp; done) | (simp; omega))⟩
set_option maxRecDepth 100000 in
set_option maxHeartbeats 2000000 in
theorem re_s32 (o n b n' b' : Int) (hs : Hid (shapeL o = (1, 1, 1))) (ha : 13 ≤ o) (hb : o ≤ 15) (w : World) :
    Calls Try.prog 12 #[.int .i64 o, .agg #[.int .i64 1, .int .u64 n, .int .i64 b], .agg #[.int .i64 1, .int .u64 n', .int .i64 b']] w fun e w' => e = .returned (.tuple #[.agg #[.int .i64 (intAns (shiftT32 o (n % 4294967296) (n' % 4294967296))).1.1, .int .u64 (intAns (shiftT32 o (n % 4294967296) (n' % 4294967296))).1.2.1, .int .i64 (intAns (shiftT32 o (n % 4294967296) (n' % 4294967296))).1.2.2], .bool (intAns (shiftT32 o (n % 4294967296) (n' % 4294967296))).2]) ∧ Fresh w w' := by
  go_enter Try.func12, Try.ntmps12
  go_wp2_with (first | (go_at_call 21; refine (shapeR_of _ _ _ _ hs.out _).mono ?_; rintro e w' ⟨rfl, rfl⟩) | (go_at_call 44; refine (rshift32_any _ _ _ _ ha hb _).mono ?_; rintro e w1 ⟨r32, rfl, hr, h1⟩; obtain ⟨c1, f1⟩ := h1.cells; have z1a := h1.z (n := w.heap.size) (by first | assumption | (simp; done) | (simp; assumption) | (simp; omega)); have z1b := h1.z (n := w.heap.size + 1) (by first | assumption | (simp; done) | (simp; assumption) | (simp; omega)); have z1c := h1.z (n := w.heap.size + 1 + 1) (by first | assumption | (simp; done) | (simp; assumption) | (simp; omega)); have hR := hidOf hr; clear hr) | (go_at_call 29; refine (rInt_any _ _).mono ?_; rintro e w2 ⟨rfl, h2⟩; obtain ⟨c2, f2⟩ := h2.cells; have z2a := h2.z (n := w.heap.size) (by first | assumption | (simp; done) | (simp; assumption) | (simp; omega)); have z2b := h2.z (n := w.heap.size + 1) (by first | assumption | (simp; done) | (simp; assumption) | (simp; omega)); have z2c := h2.z (n := w.heap.size + 1 + 1) (by first | assumption | (simp; done) | (simp; assumption) | (simp; omega))))
  all_goals go_light
  all_goals first | (refine bodyPost_ret (v := ?_) ?_ rfl ?_; rotate_left 1; focus (simp [results, Try.results12, go_sem, *]; (try rfl); done)) | go_returns
  all_goals exact ⟨ret_valok (by have hR := hR.out; simp only [Bool.not_eq_true', Bool.not_eq_false'] at *; first | (simp_all [intAns, noneL]; done) | (rw [int_ret (hR ‹_›)]; simp_all [intAns])), by (repeat' first | with_reducible exact Fresh.refl _ | with_reducible assumption | with_reducible refine Fresh.alloc ?_ _ _ | with_reducible refine Fresh.drew ?_ | with_reducible refine Fresh.setCell ?_ ?_ _ | with_reducible refine Fresh.trans ?_ (by assumption) | (simp; done) | (simp; omega))⟩
set_option maxRecDepth 100000 in
set_option maxHeartbeats 2000000 in
theorem re_c64s (o n b n' b' : Int) (hs : Hid (shapeL o = (2, 2, 1))) (ho : 46 ≤ o) (ho' : o ≤ 51) (w : World) :
    Calls Try.prog 12 #[.int .i64 o, .agg #[.int .i64 2, .int .u64 n, .int .i64 b], .agg #[.int .i64 2, .int .u64 n', .int .i64 b']] w fun e w' => e = .returned (.tuple #[.agg #[.int .i64 (((1, flagL (comparedL (o - 30) (decide (wrap64 n < wrap64 n')) (n == n')), 0), true)).1.1, .int .u64 (((1, flagL (comparedL (o - 30) (decide (wrap64 n < wrap64 n')) (n == n')), 0), true)).1.2.1, .int .i64 (((1, flagL (comparedL (o - 30) (decide (wrap64 n < wrap64 n')) (n == n')), 0), true)).1.2.2], .bool (((1, flagL (comparedL (o - 30) (decide (wrap64 n < wrap64 n')) (n == n')), 0), true)).2]) ∧ Fresh w w' := by
  go_enter Try.func12, Try.ntmps12
  go_wp2_with (first | (go_at_call 21; refine (shapeR_of _ _ _ _ hs.out _).mono ?_; rintro e w' ⟨rfl, rfl⟩))
  all_goals go_region_held3 (fun w' => w'.cell? ⟨w.heap.size, 0, none⟩ = some (.int .i64 2) ∧ w'.cell? ⟨w.heap.size, 1, none⟩ = some (.int .u64 n) ∧ w'.cell? ⟨w.heap.size, 2, none⟩ = some (.int .i64 b) ∧ w'.cell? ⟨w.heap.size + 1, 0, none⟩ = some (.int .i64 2) ∧ w'.cell? ⟨w.heap.size + 1, 1, none⟩ = some (.int .u64 n') ∧ w'.cell? ⟨w.heap.size + 1, 2, none⟩ = some (.int .i64 b'))
    (simp [go_sem, *])
    (first | (go_at_call 39; refine (ri64_any _ _ _ _).mono ?_; rintro e w' ⟨rfl, rfl⟩))
  all_goals (try go_wp2_with fail)
  all_goals (try go_wp2_with (first | (go_at_call 43; refine (compared_any _ _ _ _).mono ?_; rintro e w' ⟨rfl, rfl⟩) | (go_at_call 42; refine (yes_any _ _).mono ?_; rintro e w1 ⟨rfl, h1⟩; obtain ⟨c1, f1⟩ := h1.cells)))
  all_goals go_light
  all_goals first | (refine bodyPost_ret (v := ?_) ?_ rfl ?_; rotate_left 1; focus (simp [results, Try.results12, go_sem, *]; (try rfl); done)) | go_returns
  all_goals exact ⟨by simp, by (repeat' first | with_reducible exact Fresh.refl _ | with_reducible assumption | with_reducible refine Fresh.alloc ?_ _ _ | with_reducible refine Fresh.drew ?_ | with_reducible refine Fresh.setCell ?_ ?_ _ | with_reducible refine Fresh.trans ?_ (by assumption) | (simp; done) | (simp; omega))⟩
set_option maxRecDepth 100000 in
set_option maxHeartbeats 2000000 in
theorem re_c64u (o n b n' b' : Int) (hs : Hid (shapeL o = (2, 2, 1))) (ho : 52 ≤ o) (ho' : o ≤ 55) (w : World) :
    Calls Try.prog 12 #[.int .i64 o, .agg #[.int .i64 2, .int .u64 n, .int .i64 b], .agg #[.int .i64 2, .int .u64 n', .int .i64 b']] w fun e w' => e = .returned (.tuple #[.agg #[.int .i64 (((1, flagL (comparedL (o - 30) (decide (n < n')) (n == n')), 0), true)).1.1, .int .u64 (((1, flagL (comparedL (o - 30) (decide (n < n')) (n == n')), 0), true)).1.2.1, .int .i64 (((1, flagL (comparedL (o - 30) (decide (n < n')) (n == n')), 0), true)).1.2.2], .bool (((1, flagL (comparedL (o - 30) (decide (n < n')) (n == n')), 0), true)).2]) ∧ Fresh w w' := by
  go_enter Try.func12, Try.ntmps12
  go_wp2_with (first | (go_at_call 21; refine (shapeR_of _ _ _ _ hs.out _).mono ?_; rintro e w' ⟨rfl, rfl⟩))
  all_goals go_region_held3 (fun w' => w'.cell? ⟨w.heap.size, 0, none⟩ = some (.int .i64 2) ∧ w'.cell? ⟨w.heap.size, 1, none⟩ = some (.int .u64 n) ∧ w'.cell? ⟨w.heap.size, 2, none⟩ = some (.int .i64 b) ∧ w'.cell? ⟨w.heap.size + 1, 0, none⟩ = some (.int .i64 2) ∧ w'.cell? ⟨w.heap.size + 1, 1, none⟩ = some (.int .u64 n') ∧ w'.cell? ⟨w.heap.size + 1, 2, none⟩ = some (.int .i64 b'))
    (simp [go_sem, *])
    (first | (go_at_call 39; refine (ri64_any _ _ _ _).mono ?_; rintro e w' ⟨rfl, rfl⟩))
  all_goals (try go_wp2_with fail)
  all_goals (try go_wp2_with (first | (go_at_call 43; refine (compared_any _ _ _ _).mono ?_; rintro e w' ⟨rfl, rfl⟩) | (go_at_call 42; refine (yes_any _ _).mono ?_; rintro e w1 ⟨rfl, h1⟩; obtain ⟨c1, f1⟩ := h1.cells)))
  all_goals go_light
  all_goals first | (refine bodyPost_ret (v := ?_) ?_ rfl ?_; rotate_left 1; focus (simp [results, Try.results12, go_sem, *]; (try rfl); done)) | go_returns
  all_goals exact ⟨by simp, by (repeat' first | with_reducible exact Fresh.refl _ | with_reducible assumption | with_reducible refine Fresh.alloc ?_ _ _ | with_reducible refine Fresh.drew ?_ | with_reducible refine Fresh.setCell ?_ ?_ _ | with_reducible refine Fresh.trans ?_ (by assumption) | (simp; done) | (simp; omega))⟩
set_option maxRecDepth 100000 in
set_option maxHeartbeats 2000000 in
theorem re_c32s (o n b n' b' : Int) (hs : Hid (shapeL o = (1, 1, 1))) (ho : 16 ≤ o) (ho' : o ≤ 21) (w : World) :
    Calls Try.prog 12 #[.int .i64 o, .agg #[.int .i64 1, .int .u64 n, .int .i64 b], .agg #[.int .i64 1, .int .u64 n', .int .i64 b']] w fun e w' => e = .returned (.tuple #[.agg #[.int .i64 (((1, flagL (comparedL o (decide (wrap32 (n % 4294967296) < wrap32 (n' % 4294967296))) (n % 4294967296 == n' % 4294967296)), 0), true)).1.1, .int .u64 (((1, flagL (comparedL o (decide (wrap32 (n % 4294967296) < wrap32 (n' % 4294967296))) (n % 4294967296 == n' % 4294967296)), 0), true)).1.2.1, .int .i64 (((1, flagL (comparedL o (decide (wrap32 (n % 4294967296) < wrap32 (n' % 4294967296))) (n % 4294967296 == n' % 4294967296)), 0), true)).1.2.2], .bool (((1, flagL (comparedL o (decide (wrap32 (n % 4294967296) < wrap32 (n' % 4294967296))) (n % 4294967296 == n' % 4294967296)), 0), true)).2]) ∧ Fresh w w' := by
  go_enter Try.func12, Try.ntmps12
  go_wp2_with (first | (go_at_call 21; refine (shapeR_of _ _ _ _ hs.out _).mono ?_; rintro e w' ⟨rfl, rfl⟩))
  all_goals go_region_held3 (fun w' => w'.cell? ⟨w.heap.size, 0, none⟩ = some (.int .i64 1) ∧ w'.cell? ⟨w.heap.size, 1, none⟩ = some (.int .u64 n) ∧ w'.cell? ⟨w.heap.size, 2, none⟩ = some (.int .i64 b) ∧ w'.cell? ⟨w.heap.size + 1, 0, none⟩ = some (.int .i64 1) ∧ w'.cell? ⟨w.heap.size + 1, 1, none⟩ = some (.int .u64 n') ∧ w'.cell? ⟨w.heap.size + 1, 2, none⟩ = some (.int .i64 b'))
    (simp [go_sem, *])
    (first | (go_at_call 39; refine (ri64_any _ _ _ _).mono ?_; rintro e w' ⟨rfl, rfl⟩))
  all_goals (try go_wp2_with fail)
  all_goals go_region_held3 (fun w' => w'.cell? ⟨w.heap.size, 0, none⟩ = some (.int .i64 1) ∧ w'.cell? ⟨w.heap.size, 1, none⟩ = some (.int .u64 n) ∧ w'.cell? ⟨w.heap.size, 2, none⟩ = some (.int .i64 b) ∧ w'.cell? ⟨w.heap.size + 1, 0, none⟩ = some (.int .i64 1) ∧ w'.cell? ⟨w.heap.size + 1, 1, none⟩ = some (.int .u64 n') ∧ w'.cell? ⟨w.heap.size + 1, 2, none⟩ = some (.int .i64 b'))
    (simp [go_sem, *])
    (first | (go_at_call 40; refine (ri32_any _ _ _ _).mono ?_; rintro e w' ⟨rfl, rfl⟩) | (go_at_call 41; refine (ru32_any _ _ _ _).mono ?_; rintro e w' ⟨rfl, rfl⟩))
  all_goals (try go_wp2_with fail)
  all_goals (try go_wp2_with (first | (go_at_call 43; refine (compared_any _ _ _ _).mono ?_; rintro e w' ⟨rfl, rfl⟩) | (go_at_call 42; refine (yes_any _ _).mono ?_; rintro e w1 ⟨rfl, h1⟩; obtain ⟨c1, f1⟩ := h1.cells)))
  all_goals go_light
  all_goals first | (refine bodyPost_ret (v := ?_) ?_ rfl ?_; rotate_left 1; focus (simp [results, Try.results12, go_sem, *]; (try rfl); done)) | go_returns
  all_goals exact ⟨by simp, by (repeat' first | with_reducible exact Fresh.refl _ | with_reducible assumption | with_reducible refine Fresh.alloc ?_ _ _ | with_reducible refine Fresh.drew ?_ | with_reducible refine Fresh.setCell ?_ ?_ _ | with_reducible refine Fresh.trans ?_ (by assumption) | (simp; done) | (simp; omega))⟩
set_option maxRecDepth 100000 in
set_option maxHeartbeats 2000000 in
theorem re_c32u (o n b n' b' : Int) (hs : Hid (shapeL o = (1, 1, 1))) (ho : 22 ≤ o) (ho' : o ≤ 25) (w : World) :
    Calls Try.prog 12 #[.int .i64 o, .agg #[.int .i64 1, .int .u64 n, .int .i64 b], .agg #[.int .i64 1, .int .u64 n', .int .i64 b']] w fun e w' => e = .returned (.tuple #[.agg #[.int .i64 (((1, flagL (comparedL o (decide (n % 4294967296 < n' % 4294967296)) (n % 4294967296 == n' % 4294967296)), 0), true)).1.1, .int .u64 (((1, flagL (comparedL o (decide (n % 4294967296 < n' % 4294967296)) (n % 4294967296 == n' % 4294967296)), 0), true)).1.2.1, .int .i64 (((1, flagL (comparedL o (decide (n % 4294967296 < n' % 4294967296)) (n % 4294967296 == n' % 4294967296)), 0), true)).1.2.2], .bool (((1, flagL (comparedL o (decide (n % 4294967296 < n' % 4294967296)) (n % 4294967296 == n' % 4294967296)), 0), true)).2]) ∧ Fresh w w' := by
  go_enter Try.func12, Try.ntmps12
  go_wp2_with (first | (go_at_call 21; refine (shapeR_of _ _ _ _ hs.out _).mono ?_; rintro e w' ⟨rfl, rfl⟩))
  all_goals go_region_held3 (fun w' => w'.cell? ⟨w.heap.size, 0, none⟩ = some (.int .i64 1) ∧ w'.cell? ⟨w.heap.size, 1, none⟩ = some (.int .u64 n) ∧ w'.cell? ⟨w.heap.size, 2, none⟩ = some (.int .i64 b) ∧ w'.cell? ⟨w.heap.size + 1, 0, none⟩ = some (.int .i64 1) ∧ w'.cell? ⟨w.heap.size + 1, 1, none⟩ = some (.int .u64 n') ∧ w'.cell? ⟨w.heap.size + 1, 2, none⟩ = some (.int .i64 b'))
    (simp [go_sem, *])
    (first | (go_at_call 39; refine (ri64_any _ _ _ _).mono ?_; rintro e w' ⟨rfl, rfl⟩))
  all_goals (try go_wp2_with fail)
  all_goals go_region_held3 (fun w' => w'.cell? ⟨w.heap.size, 0, none⟩ = some (.int .i64 1) ∧ w'.cell? ⟨w.heap.size, 1, none⟩ = some (.int .u64 n) ∧ w'.cell? ⟨w.heap.size, 2, none⟩ = some (.int .i64 b) ∧ w'.cell? ⟨w.heap.size + 1, 0, none⟩ = some (.int .i64 1) ∧ w'.cell? ⟨w.heap.size + 1, 1, none⟩ = some (.int .u64 n') ∧ w'.cell? ⟨w.heap.size + 1, 2, none⟩ = some (.int .i64 b'))
    (simp [go_sem, *])
    (first | (go_at_call 40; refine (ri32_any _ _ _ _).mono ?_; rintro e w' ⟨rfl, rfl⟩) | (go_at_call 41; refine (ru32_any _ _ _ _).mono ?_; rintro e w' ⟨rfl, rfl⟩))
  all_goals (try go_wp2_with fail)
  all_goals go_region_held3 (fun w' => w'.cell? ⟨w.heap.size, 0, none⟩ = some (.int .i64 1) ∧ w'.cell? ⟨w.heap.size, 1, none⟩ = some (.int .u64 n) ∧ w'.cell? ⟨w.heap.size, 2, none⟩ = some (.int .i64 b) ∧ w'.cell? ⟨w.heap.size + 1, 0, none⟩ = some (.int .i64 1) ∧ w'.cell? ⟨w.heap.size + 1, 1, none⟩ = some (.int .u64 n') ∧ w'.cell? ⟨w.heap.size + 1, 2, none⟩ = some (.int .i64 b'))
    (simp [go_sem, *])
    (first | (go_at_call 41; refine (ru32_any _ _ _ _).mono ?_; rintro e w' ⟨rfl, rfl⟩))
  all_goals (try go_wp2_with (first | (go_at_call 43; refine (compared_any _ _ _ _).mono ?_; rintro e w' ⟨rfl, rfl⟩) | (go_at_call 42; refine (yes_any _ _).mono ?_; rintro e w1 ⟨rfl, h1⟩; obtain ⟨c1, f1⟩ := h1.cells)))
  all_goals go_light
  all_goals first | (refine bodyPost_ret (v := ?_) ?_ rfl ?_; rotate_left 1; focus (simp [results, Try.results12, go_sem, *]; (try rfl); done)) | go_returns
  all_goals exact ⟨by simp, by (repeat' first | with_reducible exact Fresh.refl _ | with_reducible assumption | with_reducible refine Fresh.alloc ?_ _ _ | with_reducible refine Fresh.drew ?_ | with_reducible refine Fresh.setCell ?_ ?_ _ | with_reducible refine Fresh.trans ?_ (by assumption) | (simp; done) | (simp; omega))⟩
set_option maxRecDepth 100000 in
set_option maxHeartbeats 2000000 in
theorem re_d (o n b n' b' : Int) (r : Int) (hs : Hid (shapeL o = (3, 3, r))) (ho : 62 ≤ o) (ho' : o ≤ 71) (w : World) :
    Calls Try.prog 12 #[.int .i64 o, .agg #[.int .i64 3, .int .u64 n, .int .i64 b], .agg #[.int .i64 3, .int .u64 n', .int .i64 b']] w fun e w' => e = .returned (.tuple #[.agg #[.int .i64 (((dblKind o, doublesL o n.toNat n'.toNat, 0), true)).1.1, .int .u64 (((dblKind o, doublesL o n.toNat n'.toNat, 0), true)).1.2.1, .int .i64 (((dblKind o, doublesL o n.toNat n'.toNat, 0), true)).1.2.2], .bool (((dblKind o, doublesL o n.toNat n'.toNat, 0), true)).2]) ∧ Fresh w w' := by
  go_enter Try.func12, Try.ntmps12
  go_wp2_with (first | (go_at_call 21; refine (shapeR_of _ _ _ _ hs.out _).mono ?_; rintro e w' ⟨rfl, rfl⟩))
  all_goals go_region_held3 (fun w' => w'.cell? ⟨w.heap.size, 0, none⟩ = some (.int .i64 3) ∧ w'.cell? ⟨w.heap.size, 1, none⟩ = some (.int .u64 n) ∧ w'.cell? ⟨w.heap.size, 2, none⟩ = some (.int .i64 b) ∧ w'.cell? ⟨w.heap.size + 1, 0, none⟩ = some (.int .i64 3) ∧ w'.cell? ⟨w.heap.size + 1, 1, none⟩ = some (.int .u64 n') ∧ w'.cell? ⟨w.heap.size + 1, 2, none⟩ = some (.int .i64 b'))
    (simp [go_sem, *])
    (first | (go_at_call 38; refine (rdbl_any _ _ _ _).mono ?_; rintro e w' ⟨rfl, rfl⟩) | (go_at_call 37; refine (rdoubles_any _ _ _ (by omega) (by omega) _).mono ?_; rintro e w1 ⟨rfl, h1⟩; obtain ⟨c1, f1⟩ := h1.cells))
  all_goals (try go_wp2_with fail)
  all_goals go_light
  all_goals first | (refine bodyPost_ret (v := ?_) ?_ rfl ?_; rotate_left 1; focus (simp [results, Try.results12, go_sem, *]; (try rfl); done)) | go_returns
  all_goals exact ⟨by simp, by (repeat' first | with_reducible exact Fresh.refl _ | with_reducible assumption | with_reducible refine Fresh.alloc ?_ _ _ | with_reducible refine Fresh.drew ?_ | with_reducible refine Fresh.setCell ?_ ?_ _ | with_reducible refine Fresh.trans ?_ (by assumption) | (simp; done) | (simp; omega))⟩
end Go.Proofs.Ytopnbdblgfjnpaa
