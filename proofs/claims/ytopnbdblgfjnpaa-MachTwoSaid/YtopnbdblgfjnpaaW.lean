/- The document's own answer of an operation of two, by the operation's kinds. -/
import Derived.Test.YtopnbdblgfjnpaaV
import Derived.Test.YtopnbdblgfjnpaaT
namespace Go.Proofs.Ytopnbdblgfjnpaa
set_option linter.unusedSimpArgs false
set_option linter.unusedVariables false
open Go.RowKit

def longAns (p : Int × Bool) : (Int × Int × Int) × Bool := if p.2 then (longL (wrap64 p.1), true) else noneL
def intAns (p : Int × Bool) : (Int × Int × Int) × Bool := if p.2 then ((1, p.1, 0), true) else noneL
theorem shapeR_of (o a s r : Int) (h : shapeL o = (a, s, r)) (w : World) :
    Calls Try.prog 21 #[.int .i64 o] w fun e w' => e = .returned (.tuple #[.int .i64 a, .int .i64 s, .int .i64 r]) ∧ w = w' := by
  have := shapeR_any o w
  rw [h] at this
  exact this
theorem rwhole64_any (o x y : Int) (h1 : 3 ≤ o) (h2 : o ≤ 12) (hx : 0 ≤ x) (hx' : x < 18446744073709551616) (hy : 0 ≤ y) (w : World) :
    Calls Try.prog 45 #[.int .i64 o, .int .u64 x, .int .u64 y, .int .i64 64] w fun e w' => e = .returned (.tuple #[.int .u64 (whole64 o x y).1, .bool (whole64 o x y).2]) ∧ w = w' := by
  have h : o = 3 ∨ o = 4 ∨ o = 5 ∨ o = 6 ∨ o = 7 ∨ o = 8 ∨ o = 9 ∨ o = 10 ∨ o = 11 ∨ o = 12 := by omega
  rcases h with rfl | rfl | rfl | rfl | rfl | rfl | rfl | rfl | rfl | rfl
  · exact rwhole64_3 x y w
  · exact rwhole64_4 x y w
  · exact rwhole64_5 x y w
  · exact rwhole64_6 x y hx hx' w
  · exact rwhole64_7 x y hx hy w
  · exact rwhole64_8 x y hx hx' w
  · exact rwhole64_9 x y hx hy w
  · exact rwhole64_10 x y w
  · exact rwhole64_11 x y w
  · exact rwhole64_12 x y w
theorem rwhole32_any (o x y : Int) (h1 : 3 ≤ o) (h2 : o ≤ 12) (w : World) :
    Calls Try.prog 45 #[.int .i64 o, .int .u64 x, .int .u64 y, .int .i64 32] w (R32 o x y w) := by
  have h : o = 3 ∨ o = 4 ∨ o = 5 ∨ o = 6 ∨ o = 7 ∨ o = 8 ∨ o = 9 ∨ o = 10 ∨ o = 11 ∨ o = 12 := by omega
  rcases h with rfl | rfl | rfl | rfl | rfl | rfl | rfl | rfl | rfl | rfl
  · exact rwhole32_3 x y w
  · exact rwhole32_4 x y w
  · exact rwhole32_5 x y w
  · exact rwhole32_6 x y w
  · exact rwhole32_7 x y w
  · exact rwhole32_8 x y w
  · exact rwhole32_9 x y w
  · exact rwhole32_10 x y w
  · exact rwhole32_11 x y w
  · exact rwhole32_12 x y w
set_option maxRecDepth 100000 in
set_option maxHeartbeats 2000000 in
theorem re_z (o k n b k' n' b' : Int) (a r : Int) (hs : Hid (shapeL o = (a, 0, r))) (w : World) :
    Calls Try.prog 12 #[.int .i64 o, .agg #[.int .i64 k, .int .u64 n, .int .i64 b], .agg #[.int .i64 k', .int .u64 n', .int .i64 b']] w fun e w' => e = .returned (.tuple #[.agg #[.int .i64 (noneL).1.1, .int .u64 (noneL).1.2.1, .int .i64 (noneL).1.2.2], .bool (noneL).2]) ∧ Fresh w w' := by
  go_enter Try.func12, Try.ntmps12
  go_wp2_with (first | (go_at_call 21; refine (shapeR_of _ _ _ _ hs.out _).mono ?_; rintro e w' ⟨rfl, rfl⟩))
  all_goals go_light
  all_goals first | (refine bodyPost_ret (v := ?_) ?_ rfl ?_; rotate_left 1; focus (simp [results, Try.results12, go_sem, *]; (try rfl); done)) | go_returns
  all_goals exact ⟨ret_valok (by rfl), by (repeat' first | with_reducible exact Fresh.refl _ | with_reducible assumption | with_reducible refine Fresh.alloc ?_ _ _ | with_reducible refine Fresh.drew ?_ | with_reducible refine Fresh.setCell ?_ ?_ _ | with_reducible refine Fresh.trans ?_ (by assumption) | (simp; done) | (simp; omega))⟩
set_option maxRecDepth 100000 in
set_option maxHeartbeats 2000000 in
theorem re_n1 (o k n b k' n' b' : Int) (a s r : Int) (hs : Hid (shapeL o = (a, s, r))) (h0 : (s == 0) = false) (h2 : (s == 2) = false) (hk : (k != a) = true) (w : World) :
    Calls Try.prog 12 #[.int .i64 o, .agg #[.int .i64 k, .int .u64 n, .int .i64 b], .agg #[.int .i64 k', .int .u64 n', .int .i64 b']] w fun e w' => e = .returned (.tuple #[.agg #[.int .i64 (noneL).1.1, .int .u64 (noneL).1.2.1, .int .i64 (noneL).1.2.2], .bool (noneL).2]) ∧ Fresh w w' := by
  go_enter Try.func12, Try.ntmps12
  go_wp2_with (first | (go_at_call 21; refine (shapeR_of _ _ _ _ hs.out _).mono ?_; rintro e w' ⟨rfl, rfl⟩))
  all_goals go_light
  all_goals first | (refine bodyPost_ret (v := ?_) ?_ rfl ?_; rotate_left 1; focus (simp [results, Try.results12, go_sem, *]; (try rfl); done)) | go_returns
  all_goals exact ⟨ret_valok (by rfl), by (repeat' first | with_reducible exact Fresh.refl _ | with_reducible assumption | with_reducible refine Fresh.alloc ?_ _ _ | with_reducible refine Fresh.drew ?_ | with_reducible refine Fresh.setCell ?_ ?_ _ | with_reducible refine Fresh.trans ?_ (by assumption) | (simp; done) | (simp; omega))⟩
set_option maxRecDepth 100000 in
set_option maxHeartbeats 2000000 in
theorem re_n2 (o k n b k' n' b' : Int) (a s r : Int) (hs : Hid (shapeL o = (a, s, r))) (h0 : (s == 0) = false) (h2 : (s == 2) = false) (hk : (k != a) = false) (hk' : (k' != s) = true) (w : World) :
    Calls Try.prog 12 #[.int .i64 o, .agg #[.int .i64 k, .int .u64 n, .int .i64 b], .agg #[.int .i64 k', .int .u64 n', .int .i64 b']] w fun e w' => e = .returned (.tuple #[.agg #[.int .i64 (noneL).1.1, .int .u64 (noneL).1.2.1, .int .i64 (noneL).1.2.2], .bool (noneL).2]) ∧ Fresh w w' := by
  go_enter Try.func12, Try.ntmps12
  go_wp2_with (first | (go_at_call 21; refine (shapeR_of _ _ _ _ hs.out _).mono ?_; rintro e w' ⟨rfl, rfl⟩))
  all_goals go_light
  all_goals first | (refine bodyPost_ret (v := ?_) ?_ rfl ?_; rotate_left 1; focus (simp [results, Try.results12, go_sem, *]; (try rfl); done)) | go_returns
  all_goals exact ⟨ret_valok (by rfl), by (repeat' first | with_reducible exact Fresh.refl _ | with_reducible assumption | with_reducible refine Fresh.alloc ?_ _ _ | with_reducible refine Fresh.drew ?_ | with_reducible refine Fresh.setCell ?_ ?_ _ | with_reducible refine Fresh.trans ?_ (by assumption) | (simp; done) | (simp; omega))⟩
set_option maxRecDepth 100000 in
set_option maxHeartbeats 2000000 in
theorem re_n3 (o k n b k' n' b' : Int) (r : Int) (hs : Hid (shapeL o = (2, 2, r))) (h4 : (k == 4) = false) (h4' : (k' == 4) = false) (hk : (k != 2) = true) (ho : 31 ≤ o) (ho' : o ≤ 55) (w : World) :
    Calls Try.prog 12 #[.int .i64 o, .agg #[.int .i64 k, .int .u64 n, .int .i64 b], .agg #[.int .i64 k', .int .u64 n', .int .i64 b']] w fun e w' => e = .returned (.tuple #[.agg #[.int .i64 (noneL).1.1, .int .u64 (noneL).1.2.1, .int .i64 (noneL).1.2.2], .bool (noneL).2]) ∧ Fresh w w' := by
  go_enter Try.func12, Try.ntmps12
  go_wp2_with (first | (go_at_call 21; refine (shapeR_of _ _ _ _ hs.out _).mono ?_; rintro e w' ⟨rfl, rfl⟩))
  all_goals go_light
  all_goals first | (refine bodyPost_ret (v := ?_) ?_ rfl ?_; rotate_left 1; focus (simp [results, Try.results12, go_sem, *]; (try rfl); done)) | go_returns
  all_goals exact ⟨ret_valok (by rfl), by (repeat' first | with_reducible exact Fresh.refl _ | with_reducible assumption | with_reducible refine Fresh.alloc ?_ _ _ | with_reducible refine Fresh.drew ?_ | with_reducible refine Fresh.setCell ?_ ?_ _ | with_reducible refine Fresh.trans ?_ (by assumption) | (simp; done) | (simp; omega))⟩
set_option maxRecDepth 100000 in
set_option maxHeartbeats 2000000 in
theorem re_n4 (o k n b k' n' b' : Int) (r : Int) (hs : Hid (shapeL o = (2, 2, r))) (h4 : (k == 4) = false) (h4' : (k' == 4) = false) (hk : (k != 2) = false) (hk' : (k' != 2) = true) (ho : 31 ≤ o) (ho' : o ≤ 55) (w : World) :
    Calls Try.prog 12 #[.int .i64 o, .agg #[.int .i64 k, .int .u64 n, .int .i64 b], .agg #[.int .i64 k', .int .u64 n', .int .i64 b']] w fun e w' => e = .returned (.tuple #[.agg #[.int .i64 (noneL).1.1, .int .u64 (noneL).1.2.1, .int .i64 (noneL).1.2.2], .bool (noneL).2]) ∧ Fresh w w' := by
  go_enter Try.func12, Try.ntmps12
  go_wp2_with (first | (go_at_call 21; refine (shapeR_of _ _ _ _ hs.out _).mono ?_; rintro e w' ⟨rfl, rfl⟩))
  all_goals go_light
  all_goals first | (refine bodyPost_ret (v := ?_) ?_ rfl ?_; rotate_left 1; focus (simp [results, Try.results12, go_sem, *]; (try rfl); done)) | go_returns
  all_goals exact ⟨ret_valok (by rfl), by (repeat' first | with_reducible exact Fresh.refl _ | with_reducible assumption | with_reducible refine Fresh.alloc ?_ _ _ | with_reducible refine Fresh.drew ?_ | with_reducible refine Fresh.setCell ?_ ?_ _ | with_reducible refine Fresh.trans ?_ (by assumption) | (simp; done) | (simp; omega))⟩
set_option maxRecDepth 100000 in
set_option maxHeartbeats 2000000 in
theorem re_p1 (o k n b k' n' b' : Int) (r : Int) (hs : Hid (shapeL o = (2, 2, r))) (ho : 31 ≤ o) (ho' : o ≤ 55) (hk : (k == 4) = true) (ha : 1 ≤ o - 30) (hb : o - 30 ≤ 25) (hp : Hid (k = 4 ∨ k' = 4)) (hn : 0 ≤ n) (hN : n < 18446744073709551616) (hn' : 0 ≤ n') (hN' : n' < 18446744073709551616) (w : World) :
    Calls Try.prog 12 #[.int .i64 o, .agg #[.int .i64 k, .int .u64 n, .int .i64 b], .agg #[.int .i64 k', .int .u64 n', .int .i64 b']] w fun e w' => e = .returned (.tuple #[.agg #[.int .i64 (pointersL o k n b k' n' b').1.1, .int .u64 (pointersL o k n b k' n' b').1.2.1, .int .i64 (pointersL o k n b k' n' b').1.2.2], .bool (pointersL o k n b k' n' b').2]) ∧ Fresh w w' := by
  go_enter Try.func12, Try.ntmps12
  go_wp2_with (first | (go_at_call 21; refine (shapeR_of _ _ _ _ hs.out _).mono ?_; rintro e w' ⟨rfl, rfl⟩) | (go_at_call 36; refine (rpointers_any _ _ _ _ _ _ _ ha hb hp.out hn hN hn' hN' _).mono ?_; rintro e w1 ⟨rfl, h1⟩; obtain ⟨c1, f1⟩ := h1.cells; have z1a := h1.z (n := w.heap.size) (by first | assumption | (simp; done) | (simp; assumption) | (simp; omega)); have z1b := h1.z (n := w.heap.size + 1) (by first | assumption | (simp; done) | (simp; assumption) | (simp; omega)); have z1c := h1.z (n := w.heap.size + 1 + 1) (by first | assumption | (simp; done) | (simp; assumption) | (simp; omega))))
  all_goals go_light
  all_goals first | (refine bodyPost_ret (v := ?_) ?_ rfl ?_; rotate_left 1; focus (simp [results, Try.results12, go_sem, *]; (try rfl); done)) | go_returns
  all_goals exact ⟨ret_valok (by rfl), by (repeat' first | with_reducible exact Fresh.refl _ | with_reducible assumption | with_reducible refine Fresh.alloc ?_ _ _ | with_reducible refine Fresh.drew ?_ | with_reducible refine Fresh.setCell ?_ ?_ _ | with_reducible refine Fresh.trans ?_ (by assumption) | (simp; done) | (simp; omega))⟩
set_option maxRecDepth 100000 in
set_option maxHeartbeats 2000000 in
theorem re_p2 (o k n b k' n' b' : Int) (r : Int) (hs : Hid (shapeL o = (2, 2, r))) (ho : 31 ≤ o) (ho' : o ≤ 55) (hk : (k == 4) = false) (hk' : (k' == 4) = true) (ha : 1 ≤ o - 30) (hb : o - 30 ≤ 25) (hp : Hid (k = 4 ∨ k' = 4)) (hn : 0 ≤ n) (hN : n < 18446744073709551616) (hn' : 0 ≤ n') (hN' : n' < 18446744073709551616) (w : World) :
    Calls Try.prog 12 #[.int .i64 o, .agg #[.int .i64 k, .int .u64 n, .int .i64 b], .agg #[.int .i64 k', .int .u64 n', .int .i64 b']] w fun e w' => e = .returned (.tuple #[.agg #[.int .i64 (pointersL o k n b k' n' b').1.1, .int .u64 (pointersL o k n b k' n' b').1.2.1, .int .i64 (pointersL o k n b k' n' b').1.2.2], .bool (pointersL o k n b k' n' b').2]) ∧ Fresh w w' := by
  go_enter Try.func12, Try.ntmps12
  go_wp2_with (first | (go_at_call 21; refine (shapeR_of _ _ _ _ hs.out _).mono ?_; rintro e w' ⟨rfl, rfl⟩) | (go_at_call 36; refine (rpointers_any _ _ _ _ _ _ _ ha hb hp.out hn hN hn' hN' _).mono ?_; rintro e w1 ⟨rfl, h1⟩; obtain ⟨c1, f1⟩ := h1.cells; have z1a := h1.z (n := w.heap.size) (by first | assumption | (simp; done) | (simp; assumption) | (simp; omega)); have z1b := h1.z (n := w.heap.size + 1) (by first | assumption | (simp; done) | (simp; assumption) | (simp; omega)); have z1c := h1.z (n := w.heap.size + 1 + 1) (by first | assumption | (simp; done) | (simp; assumption) | (simp; omega))))
  all_goals go_light
  all_goals first | (refine bodyPost_ret (v := ?_) ?_ rfl ?_; rotate_left 1; focus (simp [results, Try.results12, go_sem, *]; (try rfl); done)) | go_returns
  all_goals exact ⟨ret_valok (by rfl), by (repeat' first | with_reducible exact Fresh.refl _ | with_reducible assumption | with_reducible refine Fresh.alloc ?_ _ _ | with_reducible refine Fresh.drew ?_ | with_reducible refine Fresh.setCell ?_ ?_ _ | with_reducible refine Fresh.trans ?_ (by assumption) | (simp; done) | (simp; omega))⟩
set_option maxRecDepth 100000 in
set_option maxHeartbeats 2000000 in
theorem re_w64 (o n b n' b' : Int) (hs : Hid (shapeL o = (2, 2, 2))) (ha : 3 ≤ o - 30) (hb : o - 30 ≤ 12) (ho : 33 ≤ o) (ho' : o ≤ 42) (hn : 0 ≤ n) (hN : n < 18446744073709551616) (hn' : 0 ≤ n') (w : World) :
    Calls Try.prog 12 #[.int .i64 o, .agg #[.int .i64 2, .int .u64 n, .int .i64 b], .agg #[.int .i64 2, .int .u64 n', .int .i64 b']] w fun e w' => e = .returned (.tuple #[.agg #[.int .i64 (longAns (whole64 (o - 30) n n')).1.1, .int .u64 (longAns (whole64 (o - 30) n n')).1.2.1, .int .i64 (longAns (whole64 (o - 30) n n')).1.2.2], .bool (longAns (whole64 (o - 30) n n')).2]) ∧ Fresh w w' := by
  go_enter Try.func12, Try.ntmps12
  go_wp2_with (first | (go_at_call 21; refine (shapeR_of _ _ _ _ hs.out _).mono ?_; rintro e w' ⟨rfl, rfl⟩) | (go_at_call 45; refine (rwhole64_any _ _ _ ha hb hn hN hn' _).mono ?_; rintro e w' ⟨rfl, rfl⟩) | (go_at_call 27; refine (rLong_any _ _).mono ?_; rintro e w2 ⟨rfl, h2⟩; obtain ⟨c2, f2⟩ := h2.cells; have z2a := h2.z (n := w.heap.size) (by first | assumption | (simp; done) | (simp; assumption) | (simp; omega)); have z2b := h2.z (n := w.heap.size + 1) (by first | assumption | (simp; done) | (simp; assumption) | (simp; omega)); have z2c := h2.z (n := w.heap.size + 1 + 1) (by first | assumption | (simp; done) | (simp; assumption) | (simp; omega))))
  all_goals go_light
  all_goals first | (refine bodyPost_ret (v := ?_) ?_ rfl ?_; rotate_left 1; focus (simp [results, Try.results12, go_sem, *]; (try rfl); done)) | go_returns
  all_goals exact ⟨ret_valok (by simp_all [longAns, noneL]), by (repeat' first | with_reducible exact Fresh.refl _ | with_reducible assumption | with_reducible refine Fresh.alloc ?_ _ _ | with_reducible refine Fresh.drew ?_ | with_reducible refine Fresh.setCell ?_ ?_ _ | with_reducible refine Fresh.trans ?_ (by assumption) | (simp; done) | (simp; omega))⟩
set_option maxRecDepth 100000 in
set_option maxHeartbeats 2000000 in
theorem re_s64 (o n b n' b' : Int) (hs : Hid (shapeL o = (2, 1, 2))) (ha : 13 ≤ o - 30) (hb : o - 30 ≤ 15) (ho : 43 ≤ o) (ho' : o ≤ 45) (w : World) :
    Calls Try.prog 12 #[.int .i64 o, .agg #[.int .i64 2, .int .u64 n, .int .i64 b], .agg #[.int .i64 1, .int .u64 n', .int .i64 b']] w fun e w' => e = .returned (.tuple #[.agg #[.int .i64 (longAns (shiftT64 (o - 30) n (n' % 4294967296))).1.1, .int .u64 (longAns (shiftT64 (o - 30) n (n' % 4294967296))).1.2.1, .int .i64 (longAns (shiftT64 (o - 30) n (n' % 4294967296))).1.2.2], .bool (longAns (shiftT64 (o - 30) n (n' % 4294967296))).2]) ∧ Fresh w w' := by
  go_enter Try.func12, Try.ntmps12
  go_wp2_with (first | (go_at_call 21; refine (shapeR_of _ _ _ _ hs.out _).mono ?_; rintro e w' ⟨rfl, rfl⟩) | (go_at_call 44; refine (rshift64_any _ _ _ _ ha hb _).mono ?_; rintro e w1 ⟨rfl, h1⟩; obtain ⟨c1, f1⟩ := h1.cells; have z1a := h1.z (n := w.heap.size) (by first | assumption | (simp; done) | (simp; assumption) | (simp; omega)); have z1b := h1.z (n := w.heap.size + 1) (by first | assumption | (simp; done) | (simp; assumption) | (simp; omega)); have z1c := h1.z (n := w.heap.size + 1 + 1) (by first | assumption | (simp; done) | (simp; assumption) | (simp; omega))) | (go_at_call 27; refine (rLong_any _ _).mono ?_; rintro e w2 ⟨rfl, h2⟩; obtain ⟨c2, f2⟩ := h2.cells; have z2a := h2.z (n := w.heap.size) (by first | assumption | (simp; done) | (simp; assumption) | (simp; omega)); have z2b := h2.z (n := w.heap.size + 1) (by first | assumption | (simp; done) | (simp; assumption) | (simp; omega)); have z2c := h2.z (n := w.heap.size + 1 + 1) (by first | assumption | (simp; done) | (simp; assumption) | (simp; omega))))
  all_goals go_light
  all_goals first | (refine bodyPost_ret (v := ?_) ?_ rfl ?_; rotate_left 1; focus (simp [results, Try.results12, go_sem, *]; (try rfl); done)) | go_returns
  all_goals exact ⟨ret_valok (by simp_all [longAns, noneL]), by (repeat' first | with_reducible exact Fresh.refl _ | with_reducible assumption | with_reducible refine Fresh.alloc ?_ _ _ | with_reducible refine Fresh.drew ?_ | with_reducible refine Fresh.setCell ?_ ?_ _ | with_reducible refine Fresh.trans ?_ (by assumption) | (simp; done) | (simp; omega))⟩
end Go.Proofs.Ytopnbdblgfjnpaa
