/- The reference's Eval2: what it answers. -/
import Derived.Test.YtjbflmpnmobngaaWb
import Derived.Test.YtjbflmpnmobngaaVj
namespace Go.Proofs.Ytjbflmpnmobngaa
set_option linter.unusedSimpArgs false
set_option linter.unusedVariables false
open Go.RowKit

section
set_option maxRecDepth 100000
set_option maxHeartbeats 4000000
variable {M : Nat}
theorem r_o {w : World} (o k n b k' n' b' x y z : Int) (t : Bool) (E : Hid (EB w (((w.alloc (.cells #[.int .i64 k, .int .u64 n, .int .i64 b] 32)).alloc (.cells #[.int .i64 k', .int .u64 n', .int .i64 b'] 32)).alloc (.cells #[.int .i64 0, .int .u64 0, .int .i64 0] 32)) k n b k' n' b')) (EV : Hid (∀ X, Calls Try.prog 55 #[.int .i64 o, .agg #[.int .i64 k, .int .u64 n, .int .i64 b], .agg #[.int .i64 k', .int .u64 n', .int .i64 b']] X fun e w' => e = .returned (.tuple #[.agg #[.int .i64 x, .int .u64 y, .int .i64 z], .bool t]) ∧ Fresh X w'))(OD : Hid (∀ X, Calls Try.prog 53 #[.int .i64 o] X fun e w' => e = .returned (.bool false) ∧ X = w')) (h6 : (o == 46) = false) (h7 : (o == 47) = false) :
    Calls Try.prog 20 #[.pointer (some ⟨M, 0, none⟩), .int .i64 o, .agg #[.int .i64 k, .int .u64 n, .int .i64 b], .agg #[.int .i64 k', .int .u64 n', .int .i64 b']] w fun e w' => e = .returned (.tuple #[.agg #[.int .i64 x, .int .u64 y, .int .i64 z], .bool t]) ∧ Fresh w w' := by
  go_enter Try.func20, Try.ntmps20
  obtain ⟨x0, x1, x2⟩ := own_cells E.out.x
  obtain ⟨y0, y1, y2⟩ := own_cells E.out.y
  go_wp2_with fail
  clear x0 x1 x2 y0 y1 y2
  go_at_call 53; refine (OD.out _).mono ?_; rintro e wq ⟨rfl, rfl⟩
  obtain ⟨x0, x1, x2⟩ := own_cells E.out.x
  obtain ⟨y0, y1, y2⟩ := own_cells E.out.y
  go_wp2_with fail
  clear x0 x1 x2 y0 y1 y2
  go_at_call 55; refine (EV.out _).mono ?_; rintro e wq ⟨rfl, hq⟩; replace E := Lib.hid (E.out.later hq); clear hq
  obtain ⟨z0, z1, z2⟩ := own_cells E.out.z
  have qf := fun o => E.out.zf o
  go_wp2_with fail
  all_goals (refine bodyPost_ret (v := ?_) ?_ rfl ?_; rotate_left 1; focus (simp [results, Try.results20, go_sem, *]; (try rfl); done))
  all_goals exact ⟨rfl, (by (repeat' first | with_reducible exact E.out.fr | with_reducible refine Fresh.alloc ?_ _ _ | with_reducible refine Fresh.drew ?_ | with_reducible refine Fresh.setCell ?_ ?_ _ | (simp; done) | (simp; omega)))⟩
theorem r_b6 {w : World} (o k n b k' n' b' x y z : Int) (t : Bool) (E : Hid (EB w (((w.alloc (.cells #[.int .i64 k, .int .u64 n, .int .i64 b] 32)).alloc (.cells #[.int .i64 k', .int .u64 n', .int .i64 b'] 32)).alloc (.cells #[.int .i64 0, .int .u64 0, .int .i64 0] 32)) k n b k' n' b')) (EV : Hid (∀ X, Calls Try.prog 55 #[.int .i64 o, .agg #[.int .i64 k, .int .u64 n, .int .i64 b], .agg #[.int .i64 k', .int .u64 n', .int .i64 b']] X fun e w' => e = .returned (.tuple #[.agg #[.int .i64 x, .int .u64 y, .int .i64 z], .bool t]) ∧ Fresh X w'))(OD : Hid (∀ X, Calls Try.prog 53 #[.int .i64 o] X fun e w' => e = .returned (.bool false) ∧ X = w')) (h6 : (o == 46) = true) (hb : (b != b') = false) :
    Calls Try.prog 20 #[.pointer (some ⟨M, 0, none⟩), .int .i64 o, .agg #[.int .i64 k, .int .u64 n, .int .i64 b], .agg #[.int .i64 k', .int .u64 n', .int .i64 b']] w fun e w' => e = .returned (.tuple #[.agg #[.int .i64 x, .int .u64 y, .int .i64 z], .bool t]) ∧ Fresh w w' := by
  go_enter Try.func20, Try.ntmps20
  obtain ⟨x0, x1, x2⟩ := own_cells E.out.x
  obtain ⟨y0, y1, y2⟩ := own_cells E.out.y
  go_wp2_with fail
  clear x0 x1 x2 y0 y1 y2
  go_at_call 53; refine (OD.out _).mono ?_; rintro e wq ⟨rfl, rfl⟩
  obtain ⟨x0, x1, x2⟩ := own_cells E.out.x
  obtain ⟨y0, y1, y2⟩ := own_cells E.out.y
  go_wp2_with fail
  clear x0 x1 x2 y0 y1 y2
  go_at_call 55; refine (EV.out _).mono ?_; rintro e wq ⟨rfl, hq⟩; replace E := Lib.hid (E.out.later hq); clear hq
  obtain ⟨z0, z1, z2⟩ := own_cells E.out.z
  have qf := fun o => E.out.zf o
  go_wp2_with fail
  all_goals (refine bodyPost_ret (v := ?_) ?_ rfl ?_; rotate_left 1; focus (simp [results, Try.results20, go_sem, *]; (try rfl); done))
  all_goals exact ⟨rfl, (by (repeat' first | with_reducible exact E.out.fr | with_reducible refine Fresh.alloc ?_ _ _ | with_reducible refine Fresh.drew ?_ | with_reducible refine Fresh.setCell ?_ ?_ _ | (simp; done) | (simp; omega)))⟩
theorem r_b7 {w : World} (o k n b k' n' b' x y z : Int) (t : Bool) (E : Hid (EB w (((w.alloc (.cells #[.int .i64 k, .int .u64 n, .int .i64 b] 32)).alloc (.cells #[.int .i64 k', .int .u64 n', .int .i64 b'] 32)).alloc (.cells #[.int .i64 0, .int .u64 0, .int .i64 0] 32)) k n b k' n' b')) (EV : Hid (∀ X, Calls Try.prog 55 #[.int .i64 o, .agg #[.int .i64 k, .int .u64 n, .int .i64 b], .agg #[.int .i64 k', .int .u64 n', .int .i64 b']] X fun e w' => e = .returned (.tuple #[.agg #[.int .i64 x, .int .u64 y, .int .i64 z], .bool t]) ∧ Fresh X w'))(OD : Hid (∀ X, Calls Try.prog 53 #[.int .i64 o] X fun e w' => e = .returned (.bool false) ∧ X = w')) (h6 : (o == 46) = false) (h7 : (o == 47) = true) (hb : (b != b') = false) :
    Calls Try.prog 20 #[.pointer (some ⟨M, 0, none⟩), .int .i64 o, .agg #[.int .i64 k, .int .u64 n, .int .i64 b], .agg #[.int .i64 k', .int .u64 n', .int .i64 b']] w fun e w' => e = .returned (.tuple #[.agg #[.int .i64 x, .int .u64 y, .int .i64 z], .bool t]) ∧ Fresh w w' := by
  go_enter Try.func20, Try.ntmps20
  obtain ⟨x0, x1, x2⟩ := own_cells E.out.x
  obtain ⟨y0, y1, y2⟩ := own_cells E.out.y
  go_wp2_with fail
  clear x0 x1 x2 y0 y1 y2
  go_at_call 53; refine (OD.out _).mono ?_; rintro e wq ⟨rfl, rfl⟩
  obtain ⟨x0, x1, x2⟩ := own_cells E.out.x
  obtain ⟨y0, y1, y2⟩ := own_cells E.out.y
  go_wp2_with fail
  clear x0 x1 x2 y0 y1 y2
  go_at_call 55; refine (EV.out _).mono ?_; rintro e wq ⟨rfl, hq⟩; replace E := Lib.hid (E.out.later hq); clear hq
  obtain ⟨z0, z1, z2⟩ := own_cells E.out.z
  have qf := fun o => E.out.zf o
  go_wp2_with fail
  all_goals (refine bodyPost_ret (v := ?_) ?_ rfl ?_; rotate_left 1; focus (simp [results, Try.results20, go_sem, *]; (try rfl); done))
  all_goals exact ⟨rfl, (by (repeat' first | with_reducible exact E.out.fr | with_reducible refine Fresh.alloc ?_ _ _ | with_reducible refine Fresh.drew ?_ | with_reducible refine Fresh.setCell ?_ ?_ _ | (simp; done) | (simp; omega)))⟩
theorem r_c6 {w : World} (o k n b k' n' b' x y z : Int) (t : Bool) (E : Hid (EB w (((w.alloc (.cells #[.int .i64 k, .int .u64 n, .int .i64 b] 32)).alloc (.cells #[.int .i64 k', .int .u64 n', .int .i64 b'] 32)).alloc (.cells #[.int .i64 0, .int .u64 0, .int .i64 0] 32)) k n b k' n' b')) (EV : Hid (∀ X, Calls Try.prog 55 #[.int .i64 o, .agg #[.int .i64 k, .int .u64 n, .int .i64 b], .agg #[.int .i64 k', .int .u64 n', .int .i64 b']] X fun e w' => e = .returned (.tuple #[.agg #[.int .i64 x, .int .u64 y, .int .i64 z], .bool t]) ∧ Fresh X w'))(OD : Hid (∀ X, Calls Try.prog 53 #[.int .i64 o] X fun e w' => e = .returned (.bool false) ∧ X = w'))(I1 : Hid (∀ X, Fresh w X → Calls Try.prog 52 #[.pointer (some ⟨M, 0, none⟩), .agg #[.int .i64 k, .int .u64 n, .int .i64 b]] X fun e w' => e = .returned (.bool false) ∧ Fresh X w')) (h6 : (o == 46) = true) (hb : (b != b') = true) :
    Calls Try.prog 20 #[.pointer (some ⟨M, 0, none⟩), .int .i64 o, .agg #[.int .i64 k, .int .u64 n, .int .i64 b], .agg #[.int .i64 k', .int .u64 n', .int .i64 b']] w fun e w' => e = .returned (.tuple #[.agg #[.int .i64 x, .int .u64 y, .int .i64 z], .bool t]) ∧ Fresh w w' := by
  go_enter Try.func20, Try.ntmps20
  obtain ⟨x0, x1, x2⟩ := own_cells E.out.x
  obtain ⟨y0, y1, y2⟩ := own_cells E.out.y
  go_wp2_with fail
  clear x0 x1 x2 y0 y1 y2
  go_at_call 52; refine (I1.out _ E.out.fr).mono ?_; rintro e wq ⟨rfl, hq⟩; replace E := Lib.hid (E.out.later hq); clear hq
  obtain ⟨x0, x1, x2⟩ := own_cells E.out.x
  obtain ⟨y0, y1, y2⟩ := own_cells E.out.y
  go_wp2_with fail
  clear x0 x1 x2 y0 y1 y2
  go_at_call 53; refine (OD.out _).mono ?_; rintro e wq ⟨rfl, rfl⟩
  obtain ⟨x0, x1, x2⟩ := own_cells E.out.x
  obtain ⟨y0, y1, y2⟩ := own_cells E.out.y
  go_wp2_with fail
  clear x0 x1 x2 y0 y1 y2
  go_at_call 55; refine (EV.out _).mono ?_; rintro e wq ⟨rfl, hq⟩; replace E := Lib.hid (E.out.later hq); clear hq
  obtain ⟨z0, z1, z2⟩ := own_cells E.out.z
  have qf := fun o => E.out.zf o
  go_wp2_with fail
  all_goals (refine bodyPost_ret (v := ?_) ?_ rfl ?_; rotate_left 1; focus (simp [results, Try.results20, go_sem, *]; (try rfl); done))
  all_goals exact ⟨rfl, (by (repeat' first | with_reducible exact E.out.fr | with_reducible refine Fresh.alloc ?_ _ _ | with_reducible refine Fresh.drew ?_ | with_reducible refine Fresh.setCell ?_ ?_ _ | (simp; done) | (simp; omega)))⟩
theorem r_c7 {w : World} (o k n b k' n' b' x y z : Int) (t : Bool) (E : Hid (EB w (((w.alloc (.cells #[.int .i64 k, .int .u64 n, .int .i64 b] 32)).alloc (.cells #[.int .i64 k', .int .u64 n', .int .i64 b'] 32)).alloc (.cells #[.int .i64 0, .int .u64 0, .int .i64 0] 32)) k n b k' n' b')) (EV : Hid (∀ X, Calls Try.prog 55 #[.int .i64 o, .agg #[.int .i64 k, .int .u64 n, .int .i64 b], .agg #[.int .i64 k', .int .u64 n', .int .i64 b']] X fun e w' => e = .returned (.tuple #[.agg #[.int .i64 x, .int .u64 y, .int .i64 z], .bool t]) ∧ Fresh X w'))(OD : Hid (∀ X, Calls Try.prog 53 #[.int .i64 o] X fun e w' => e = .returned (.bool false) ∧ X = w'))(I1 : Hid (∀ X, Fresh w X → Calls Try.prog 52 #[.pointer (some ⟨M, 0, none⟩), .agg #[.int .i64 k, .int .u64 n, .int .i64 b]] X fun e w' => e = .returned (.bool false) ∧ Fresh X w')) (h6 : (o == 46) = false) (h7 : (o == 47) = true) (hb : (b != b') = true) :
    Calls Try.prog 20 #[.pointer (some ⟨M, 0, none⟩), .int .i64 o, .agg #[.int .i64 k, .int .u64 n, .int .i64 b], .agg #[.int .i64 k', .int .u64 n', .int .i64 b']] w fun e w' => e = .returned (.tuple #[.agg #[.int .i64 x, .int .u64 y, .int .i64 z], .bool t]) ∧ Fresh w w' := by
  go_enter Try.func20, Try.ntmps20
  obtain ⟨x0, x1, x2⟩ := own_cells E.out.x
  obtain ⟨y0, y1, y2⟩ := own_cells E.out.y
  go_wp2_with fail
  clear x0 x1 x2 y0 y1 y2
  go_at_call 52; refine (I1.out _ E.out.fr).mono ?_; rintro e wq ⟨rfl, hq⟩; replace E := Lib.hid (E.out.later hq); clear hq
  obtain ⟨x0, x1, x2⟩ := own_cells E.out.x
  obtain ⟨y0, y1, y2⟩ := own_cells E.out.y
  go_wp2_with fail
  clear x0 x1 x2 y0 y1 y2
  go_at_call 53; refine (OD.out _).mono ?_; rintro e wq ⟨rfl, rfl⟩
  obtain ⟨x0, x1, x2⟩ := own_cells E.out.x
  obtain ⟨y0, y1, y2⟩ := own_cells E.out.y
  go_wp2_with fail
  clear x0 x1 x2 y0 y1 y2
  go_at_call 55; refine (EV.out _).mono ?_; rintro e wq ⟨rfl, hq⟩; replace E := Lib.hid (E.out.later hq); clear hq
  obtain ⟨z0, z1, z2⟩ := own_cells E.out.z
  have qf := fun o => E.out.zf o
  go_wp2_with fail
  all_goals (refine bodyPost_ret (v := ?_) ?_ rfl ?_; rotate_left 1; focus (simp [results, Try.results20, go_sem, *]; (try rfl); done))
  all_goals exact ⟨rfl, (by (repeat' first | with_reducible exact E.out.fr | with_reducible refine Fresh.alloc ?_ _ _ | with_reducible refine Fresh.drew ?_ | with_reducible refine Fresh.setCell ?_ ?_ _ | (simp; done) | (simp; omega)))⟩
theorem r_d6 {w : World} (o k n b k' n' b' x y z : Int) (t : Bool) (E : Hid (EB w (((w.alloc (.cells #[.int .i64 k, .int .u64 n, .int .i64 b] 32)).alloc (.cells #[.int .i64 k', .int .u64 n', .int .i64 b'] 32)).alloc (.cells #[.int .i64 0, .int .u64 0, .int .i64 0] 32)) k n b k' n' b')) (EV : Hid (∀ X, Calls Try.prog 55 #[.int .i64 o, .agg #[.int .i64 k, .int .u64 n, .int .i64 b], .agg #[.int .i64 k', .int .u64 n', .int .i64 b']] X fun e w' => e = .returned (.tuple #[.agg #[.int .i64 x, .int .u64 y, .int .i64 z], .bool t]) ∧ Fresh X w'))(OD : Hid (∀ X, Calls Try.prog 53 #[.int .i64 o] X fun e w' => e = .returned (.bool false) ∧ X = w'))(I1 : Hid (∀ X, Fresh w X → Calls Try.prog 52 #[.pointer (some ⟨M, 0, none⟩), .agg #[.int .i64 k, .int .u64 n, .int .i64 b]] X fun e w' => e = .returned (.bool true) ∧ Fresh X w'))(I2 : Hid (∀ X, Fresh w X → Calls Try.prog 52 #[.pointer (some ⟨M, 0, none⟩), .agg #[.int .i64 k', .int .u64 n', .int .i64 b']] X fun e w' => e = .returned (.bool false) ∧ Fresh X w')) (h6 : (o == 46) = true) (hb : (b != b') = true) :
    Calls Try.prog 20 #[.pointer (some ⟨M, 0, none⟩), .int .i64 o, .agg #[.int .i64 k, .int .u64 n, .int .i64 b], .agg #[.int .i64 k', .int .u64 n', .int .i64 b']] w fun e w' => e = .returned (.tuple #[.agg #[.int .i64 x, .int .u64 y, .int .i64 z], .bool t]) ∧ Fresh w w' := by
  go_enter Try.func20, Try.ntmps20
  obtain ⟨x0, x1, x2⟩ := own_cells E.out.x
  obtain ⟨y0, y1, y2⟩ := own_cells E.out.y
  go_wp2_with fail
  clear x0 x1 x2 y0 y1 y2
  go_at_call 52; refine (I1.out _ E.out.fr).mono ?_; rintro e wq ⟨rfl, hq⟩; replace E := Lib.hid (E.out.later hq); clear hq
  obtain ⟨x0, x1, x2⟩ := own_cells E.out.x
  obtain ⟨y0, y1, y2⟩ := own_cells E.out.y
  go_wp2_with fail
  clear x0 x1 x2 y0 y1 y2
  go_at_call 52; refine (I2.out _ E.out.fr).mono ?_; rintro e wq ⟨rfl, hq⟩; replace E := Lib.hid (E.out.later hq); clear hq
  obtain ⟨x0, x1, x2⟩ := own_cells E.out.x
  obtain ⟨y0, y1, y2⟩ := own_cells E.out.y
  go_wp2_with fail
  clear x0 x1 x2 y0 y1 y2
  go_at_call 53; refine (OD.out _).mono ?_; rintro e wq ⟨rfl, rfl⟩
  obtain ⟨x0, x1, x2⟩ := own_cells E.out.x
  obtain ⟨y0, y1, y2⟩ := own_cells E.out.y
  go_wp2_with fail
  clear x0 x1 x2 y0 y1 y2
  go_at_call 55; refine (EV.out _).mono ?_; rintro e wq ⟨rfl, hq⟩; replace E := Lib.hid (E.out.later hq); clear hq
  obtain ⟨z0, z1, z2⟩ := own_cells E.out.z
  have qf := fun o => E.out.zf o
  go_wp2_with fail
  all_goals (refine bodyPost_ret (v := ?_) ?_ rfl ?_; rotate_left 1; focus (simp [results, Try.results20, go_sem, *]; (try rfl); done))
  all_goals exact ⟨rfl, (by (repeat' first | with_reducible exact E.out.fr | with_reducible refine Fresh.alloc ?_ _ _ | with_reducible refine Fresh.drew ?_ | with_reducible refine Fresh.setCell ?_ ?_ _ | (simp; done) | (simp; omega)))⟩
theorem r_d7 {w : World} (o k n b k' n' b' x y z : Int) (t : Bool) (E : Hid (EB w (((w.alloc (.cells #[.int .i64 k, .int .u64 n, .int .i64 b] 32)).alloc (.cells #[.int .i64 k', .int .u64 n', .int .i64 b'] 32)).alloc (.cells #[.int .i64 0, .int .u64 0, .int .i64 0] 32)) k n b k' n' b')) (EV : Hid (∀ X, Calls Try.prog 55 #[.int .i64 o, .agg #[.int .i64 k, .int .u64 n, .int .i64 b], .agg #[.int .i64 k', .int .u64 n', .int .i64 b']] X fun e w' => e = .returned (.tuple #[.agg #[.int .i64 x, .int .u64 y, .int .i64 z], .bool t]) ∧ Fresh X w'))(OD : Hid (∀ X, Calls Try.prog 53 #[.int .i64 o] X fun e w' => e = .returned (.bool false) ∧ X = w'))(I1 : Hid (∀ X, Fresh w X → Calls Try.prog 52 #[.pointer (some ⟨M, 0, none⟩), .agg #[.int .i64 k, .int .u64 n, .int .i64 b]] X fun e w' => e = .returned (.bool true) ∧ Fresh X w'))(I2 : Hid (∀ X, Fresh w X → Calls Try.prog 52 #[.pointer (some ⟨M, 0, none⟩), .agg #[.int .i64 k', .int .u64 n', .int .i64 b']] X fun e w' => e = .returned (.bool false) ∧ Fresh X w')) (h6 : (o == 46) = false) (h7 : (o == 47) = true) (hb : (b != b') = true) :
    Calls Try.prog 20 #[.pointer (some ⟨M, 0, none⟩), .int .i64 o, .agg #[.int .i64 k, .int .u64 n, .int .i64 b], .agg #[.int .i64 k', .int .u64 n', .int .i64 b']] w fun e w' => e = .returned (.tuple #[.agg #[.int .i64 x, .int .u64 y, .int .i64 z], .bool t]) ∧ Fresh w w' := by
  go_enter Try.func20, Try.ntmps20
  obtain ⟨x0, x1, x2⟩ := own_cells E.out.x
  obtain ⟨y0, y1, y2⟩ := own_cells E.out.y
  go_wp2_with fail
  clear x0 x1 x2 y0 y1 y2
  go_at_call 52; refine (I1.out _ E.out.fr).mono ?_; rintro e wq ⟨rfl, hq⟩; replace E := Lib.hid (E.out.later hq); clear hq
  obtain ⟨x0, x1, x2⟩ := own_cells E.out.x
  obtain ⟨y0, y1, y2⟩ := own_cells E.out.y
  go_wp2_with fail
  clear x0 x1 x2 y0 y1 y2
  go_at_call 52; refine (I2.out _ E.out.fr).mono ?_; rintro e wq ⟨rfl, hq⟩; replace E := Lib.hid (E.out.later hq); clear hq
  obtain ⟨x0, x1, x2⟩ := own_cells E.out.x
  obtain ⟨y0, y1, y2⟩ := own_cells E.out.y
  go_wp2_with fail
  clear x0 x1 x2 y0 y1 y2
  go_at_call 53; refine (OD.out _).mono ?_; rintro e wq ⟨rfl, rfl⟩
  obtain ⟨x0, x1, x2⟩ := own_cells E.out.x
  obtain ⟨y0, y1, y2⟩ := own_cells E.out.y
  go_wp2_with fail
  clear x0 x1 x2 y0 y1 y2
  go_at_call 55; refine (EV.out _).mono ?_; rintro e wq ⟨rfl, hq⟩; replace E := Lib.hid (E.out.later hq); clear hq
  obtain ⟨z0, z1, z2⟩ := own_cells E.out.z
  have qf := fun o => E.out.zf o
  go_wp2_with fail
  all_goals (refine bodyPost_ret (v := ?_) ?_ rfl ?_; rotate_left 1; focus (simp [results, Try.results20, go_sem, *]; (try rfl); done))
  all_goals exact ⟨rfl, (by (repeat' first | with_reducible exact E.out.fr | with_reducible refine Fresh.alloc ?_ _ _ | with_reducible refine Fresh.drew ?_ | with_reducible refine Fresh.setCell ?_ ?_ _ | (simp; done) | (simp; omega)))⟩
theorem r_k1 {w : World} (o k n b k' n' b' x y z : Int) (t : Bool) (E : Hid (EB w (((w.alloc (.cells #[.int .i64 k, .int .u64 n, .int .i64 b] 32)).alloc (.cells #[.int .i64 k', .int .u64 n', .int .i64 b'] 32)).alloc (.cells #[.int .i64 0, .int .u64 0, .int .i64 0] 32)) k n b k' n' b')) (EV : Hid (∀ X, Calls Try.prog 55 #[.int .i64 o, .agg #[.int .i64 k, .int .u64 n, .int .i64 b], .agg #[.int .i64 k', .int .u64 n', .int .i64 b']] X fun e w' => e = .returned (.tuple #[.agg #[.int .i64 x, .int .u64 y, .int .i64 z], .bool t]) ∧ Fresh X w'))(OD : Hid (∀ X, Calls Try.prog 53 #[.int .i64 o] X fun e w' => e = .returned (.bool true) ∧ X = w')) (h6 : (o == 46) = false) (h7 : (o == 47) = false) (h : (k == 4) = false) :
    Calls Try.prog 20 #[.pointer (some ⟨M, 0, none⟩), .int .i64 o, .agg #[.int .i64 k, .int .u64 n, .int .i64 b], .agg #[.int .i64 k', .int .u64 n', .int .i64 b']] w fun e w' => e = .returned (.tuple #[.agg #[.int .i64 x, .int .u64 y, .int .i64 z], .bool t]) ∧ Fresh w w' := by
  go_enter Try.func20, Try.ntmps20
  obtain ⟨x0, x1, x2⟩ := own_cells E.out.x
  obtain ⟨y0, y1, y2⟩ := own_cells E.out.y
  go_wp2_with fail
  clear x0 x1 x2 y0 y1 y2
  go_at_call 53; refine (OD.out _).mono ?_; rintro e wq ⟨rfl, rfl⟩
  obtain ⟨x0, x1, x2⟩ := own_cells E.out.x
  obtain ⟨y0, y1, y2⟩ := own_cells E.out.y
  go_wp2_with fail
  clear x0 x1 x2 y0 y1 y2
  go_at_call 55; refine (EV.out _).mono ?_; rintro e wq ⟨rfl, hq⟩; replace E := Lib.hid (E.out.later hq); clear hq
  obtain ⟨z0, z1, z2⟩ := own_cells E.out.z
  have qf := fun o => E.out.zf o
  go_wp2_with fail
  all_goals (refine bodyPost_ret (v := ?_) ?_ rfl ?_; rotate_left 1; focus (simp [results, Try.results20, go_sem, *]; (try rfl); done))
  all_goals exact ⟨rfl, (by (repeat' first | with_reducible exact E.out.fr | with_reducible refine Fresh.alloc ?_ _ _ | with_reducible refine Fresh.drew ?_ | with_reducible refine Fresh.setCell ?_ ?_ _ | (simp; done) | (simp; omega)))⟩
theorem r_k2 {w : World} (o k n b k' n' b' x y z : Int) (t : Bool) (E : Hid (EB w (((w.alloc (.cells #[.int .i64 k, .int .u64 n, .int .i64 b] 32)).alloc (.cells #[.int .i64 k', .int .u64 n', .int .i64 b'] 32)).alloc (.cells #[.int .i64 0, .int .u64 0, .int .i64 0] 32)) k n b k' n' b')) (EV : Hid (∀ X, Calls Try.prog 55 #[.int .i64 o, .agg #[.int .i64 k, .int .u64 n, .int .i64 b], .agg #[.int .i64 k', .int .u64 n', .int .i64 b']] X fun e w' => e = .returned (.tuple #[.agg #[.int .i64 x, .int .u64 y, .int .i64 z], .bool t]) ∧ Fresh X w'))(OD : Hid (∀ X, Calls Try.prog 53 #[.int .i64 o] X fun e w' => e = .returned (.bool true) ∧ X = w')) (h6 : (o == 46) = false) (h7 : (o == 47) = false) (h : (k == 4) = true) (h' : (k' == 4) = false) :
    Calls Try.prog 20 #[.pointer (some ⟨M, 0, none⟩), .int .i64 o, .agg #[.int .i64 k, .int .u64 n, .int .i64 b], .agg #[.int .i64 k', .int .u64 n', .int .i64 b']] w fun e w' => e = .returned (.tuple #[.agg #[.int .i64 x, .int .u64 y, .int .i64 z], .bool t]) ∧ Fresh w w' := by
  go_enter Try.func20, Try.ntmps20
  obtain ⟨x0, x1, x2⟩ := own_cells E.out.x
  obtain ⟨y0, y1, y2⟩ := own_cells E.out.y
  go_wp2_with fail
  clear x0 x1 x2 y0 y1 y2
  go_at_call 53; refine (OD.out _).mono ?_; rintro e wq ⟨rfl, rfl⟩
  obtain ⟨x0, x1, x2⟩ := own_cells E.out.x
  obtain ⟨y0, y1, y2⟩ := own_cells E.out.y
  go_wp2_with fail
  clear x0 x1 x2 y0 y1 y2
  go_at_call 55; refine (EV.out _).mono ?_; rintro e wq ⟨rfl, hq⟩; replace E := Lib.hid (E.out.later hq); clear hq
  obtain ⟨z0, z1, z2⟩ := own_cells E.out.z
  have qf := fun o => E.out.zf o
  go_wp2_with fail
  all_goals (refine bodyPost_ret (v := ?_) ?_ rfl ?_; rotate_left 1; focus (simp [results, Try.results20, go_sem, *]; (try rfl); done))
  all_goals exact ⟨rfl, (by (repeat' first | with_reducible exact E.out.fr | with_reducible refine Fresh.alloc ?_ _ _ | with_reducible refine Fresh.drew ?_ | with_reducible refine Fresh.setCell ?_ ?_ _ | (simp; done) | (simp; omega)))⟩
theorem r_f {w : World} (o k n b k' n' b' x y z : Int) (t : Bool) (E : Hid (EB w (((w.alloc (.cells #[.int .i64 k, .int .u64 n, .int .i64 b] 32)).alloc (.cells #[.int .i64 k', .int .u64 n', .int .i64 b'] 32)).alloc (.cells #[.int .i64 0, .int .u64 0, .int .i64 0] 32)) k n b k' n' b')) (OD : Hid (∀ X, Calls Try.prog 53 #[.int .i64 o] X fun e w' => e = .returned (.bool true) ∧ X = w'))(E1 : Hid (∀ X, Fresh w X → Calls Try.prog 54 #[.pointer (some ⟨M, 0, none⟩), .agg #[.int .i64 k, .int .u64 n, .int .i64 b]] X fun e w' => e = .returned (.bool false) ∧ Fresh X w')) (h6 : (o == 46) = false) (h7 : (o == 47) = false) (h : (k == 4) = true) (h' : (k' == 4) = true) :
    Calls Try.prog 20 #[.pointer (some ⟨M, 0, none⟩), .int .i64 o, .agg #[.int .i64 k, .int .u64 n, .int .i64 b], .agg #[.int .i64 k', .int .u64 n', .int .i64 b']] w fun e w' => e = .returned (.tuple #[.agg #[.int .i64 0, .int .u64 0, .int .i64 0], .bool false]) ∧ Fresh w w' := by
  go_enter Try.func20, Try.ntmps20
  obtain ⟨x0, x1, x2⟩ := own_cells E.out.x
  obtain ⟨y0, y1, y2⟩ := own_cells E.out.y
  go_wp2_with fail
  clear x0 x1 x2 y0 y1 y2
  go_at_call 53; refine (OD.out _).mono ?_; rintro e wq ⟨rfl, rfl⟩
  obtain ⟨x0, x1, x2⟩ := own_cells E.out.x
  obtain ⟨y0, y1, y2⟩ := own_cells E.out.y
  go_wp2_with fail
  clear x0 x1 x2 y0 y1 y2
  go_at_call 54; refine (E1.out _ E.out.fr).mono ?_; rintro e wq ⟨rfl, hq⟩; replace E := Lib.hid (E.out.later hq); clear hq
  obtain ⟨z0, z1, z2⟩ := own_cells E.out.z
  have qf := fun o => E.out.zf o
  obtain ⟨x0, x1, x2⟩ := own_cells E.out.x
  obtain ⟨y0, y1, y2⟩ := own_cells E.out.y
  go_wp2_with fail
  all_goals (refine bodyPost_ret (v := ?_) ?_ rfl ?_; rotate_left 1; focus (simp [results, Try.results20, go_sem, *]; (try rfl); done))
  all_goals exact ⟨rfl, (by (repeat' first | with_reducible exact E.out.fr | with_reducible refine Fresh.alloc ?_ _ _ | with_reducible refine Fresh.drew ?_ | with_reducible refine Fresh.setCell ?_ ?_ _ | (simp; done) | (simp; omega)))⟩
theorem r_g {w : World} (o k n b k' n' b' x y z : Int) (t : Bool) (E : Hid (EB w (((w.alloc (.cells #[.int .i64 k, .int .u64 n, .int .i64 b] 32)).alloc (.cells #[.int .i64 k', .int .u64 n', .int .i64 b'] 32)).alloc (.cells #[.int .i64 0, .int .u64 0, .int .i64 0] 32)) k n b k' n' b')) (OD : Hid (∀ X, Calls Try.prog 53 #[.int .i64 o] X fun e w' => e = .returned (.bool true) ∧ X = w'))(E1 : Hid (∀ X, Fresh w X → Calls Try.prog 54 #[.pointer (some ⟨M, 0, none⟩), .agg #[.int .i64 k, .int .u64 n, .int .i64 b]] X fun e w' => e = .returned (.bool true) ∧ Fresh X w'))(E2 : Hid (∀ X, Fresh w X → Calls Try.prog 54 #[.pointer (some ⟨M, 0, none⟩), .agg #[.int .i64 k', .int .u64 n', .int .i64 b']] X fun e w' => e = .returned (.bool false) ∧ Fresh X w')) (h6 : (o == 46) = false) (h7 : (o == 47) = false) (h : (k == 4) = true) (h' : (k' == 4) = true) :
    Calls Try.prog 20 #[.pointer (some ⟨M, 0, none⟩), .int .i64 o, .agg #[.int .i64 k, .int .u64 n, .int .i64 b], .agg #[.int .i64 k', .int .u64 n', .int .i64 b']] w fun e w' => e = .returned (.tuple #[.agg #[.int .i64 0, .int .u64 0, .int .i64 0], .bool false]) ∧ Fresh w w' := by
  go_enter Try.func20, Try.ntmps20
  obtain ⟨x0, x1, x2⟩ := own_cells E.out.x
  obtain ⟨y0, y1, y2⟩ := own_cells E.out.y
  go_wp2_with fail
  clear x0 x1 x2 y0 y1 y2
  go_at_call 53; refine (OD.out _).mono ?_; rintro e wq ⟨rfl, rfl⟩
  obtain ⟨x0, x1, x2⟩ := own_cells E.out.x
  obtain ⟨y0, y1, y2⟩ := own_cells E.out.y
  go_wp2_with fail
  clear x0 x1 x2 y0 y1 y2
  go_at_call 54; refine (E1.out _ E.out.fr).mono ?_; rintro e wq ⟨rfl, hq⟩; replace E := Lib.hid (E.out.later hq); clear hq
  obtain ⟨x0, x1, x2⟩ := own_cells E.out.x
  obtain ⟨y0, y1, y2⟩ := own_cells E.out.y
  go_wp2_with fail
  clear x0 x1 x2 y0 y1 y2
  go_at_call 54; refine (E2.out _ E.out.fr).mono ?_; rintro e wq ⟨rfl, hq⟩; replace E := Lib.hid (E.out.later hq); clear hq
  obtain ⟨z0, z1, z2⟩ := own_cells E.out.z
  have qf := fun o => E.out.zf o
  obtain ⟨x0, x1, x2⟩ := own_cells E.out.x
  obtain ⟨y0, y1, y2⟩ := own_cells E.out.y
  go_wp2_with fail
  all_goals (refine bodyPost_ret (v := ?_) ?_ rfl ?_; rotate_left 1; focus (simp [results, Try.results20, go_sem, *]; (try rfl); done))
  all_goals exact ⟨rfl, (by (repeat' first | with_reducible exact E.out.fr | with_reducible refine Fresh.alloc ?_ _ _ | with_reducible refine Fresh.drew ?_ | with_reducible refine Fresh.setCell ?_ ?_ _ | (simp; done) | (simp; omega)))⟩
theorem r_h {w : World} (o k n b k' n' b' x y z : Int) (t : Bool) (E : Hid (EB w (((w.alloc (.cells #[.int .i64 k, .int .u64 n, .int .i64 b] 32)).alloc (.cells #[.int .i64 k', .int .u64 n', .int .i64 b'] 32)).alloc (.cells #[.int .i64 0, .int .u64 0, .int .i64 0] 32)) k n b k' n' b')) (EV : Hid (∀ X, Calls Try.prog 55 #[.int .i64 o, .agg #[.int .i64 k, .int .u64 n, .int .i64 b], .agg #[.int .i64 k', .int .u64 n', .int .i64 b']] X fun e w' => e = .returned (.tuple #[.agg #[.int .i64 x, .int .u64 y, .int .i64 z], .bool t]) ∧ Fresh X w'))(OD : Hid (∀ X, Calls Try.prog 53 #[.int .i64 o] X fun e w' => e = .returned (.bool true) ∧ X = w'))(E1 : Hid (∀ X, Fresh w X → Calls Try.prog 54 #[.pointer (some ⟨M, 0, none⟩), .agg #[.int .i64 k, .int .u64 n, .int .i64 b]] X fun e w' => e = .returned (.bool true) ∧ Fresh X w'))(E2 : Hid (∀ X, Fresh w X → Calls Try.prog 54 #[.pointer (some ⟨M, 0, none⟩), .agg #[.int .i64 k', .int .u64 n', .int .i64 b']] X fun e w' => e = .returned (.bool true) ∧ Fresh X w')) (h6 : (o == 46) = false) (h7 : (o == 47) = false) (h : (k == 4) = true) (h' : (k' == 4) = true) :
    Calls Try.prog 20 #[.pointer (some ⟨M, 0, none⟩), .int .i64 o, .agg #[.int .i64 k, .int .u64 n, .int .i64 b], .agg #[.int .i64 k', .int .u64 n', .int .i64 b']] w fun e w' => e = .returned (.tuple #[.agg #[.int .i64 x, .int .u64 y, .int .i64 z], .bool t]) ∧ Fresh w w' := by
  go_enter Try.func20, Try.ntmps20
  obtain ⟨x0, x1, x2⟩ := own_cells E.out.x
  obtain ⟨y0, y1, y2⟩ := own_cells E.out.y
  go_wp2_with fail
  clear x0 x1 x2 y0 y1 y2
  go_at_call 53; refine (OD.out _).mono ?_; rintro e wq ⟨rfl, rfl⟩
  obtain ⟨x0, x1, x2⟩ := own_cells E.out.x
  obtain ⟨y0, y1, y2⟩ := own_cells E.out.y
  go_wp2_with fail
  clear x0 x1 x2 y0 y1 y2
  go_at_call 54; refine (E1.out _ E.out.fr).mono ?_; rintro e wq ⟨rfl, hq⟩; replace E := Lib.hid (E.out.later hq); clear hq
  obtain ⟨x0, x1, x2⟩ := own_cells E.out.x
  obtain ⟨y0, y1, y2⟩ := own_cells E.out.y
  go_wp2_with fail
  clear x0 x1 x2 y0 y1 y2
  go_at_call 54; refine (E2.out _ E.out.fr).mono ?_; rintro e wq ⟨rfl, hq⟩; replace E := Lib.hid (E.out.later hq); clear hq
  obtain ⟨x0, x1, x2⟩ := own_cells E.out.x
  obtain ⟨y0, y1, y2⟩ := own_cells E.out.y
  go_wp2_with fail
  clear x0 x1 x2 y0 y1 y2
  go_at_call 55; refine (EV.out _).mono ?_; rintro e wq ⟨rfl, hq⟩; replace E := Lib.hid (E.out.later hq); clear hq
  obtain ⟨z0, z1, z2⟩ := own_cells E.out.z
  have qf := fun o => E.out.zf o
  go_wp2_with fail
  all_goals (refine bodyPost_ret (v := ?_) ?_ rfl ?_; rotate_left 1; focus (simp [results, Try.results20, go_sem, *]; (try rfl); done))
  all_goals exact ⟨rfl, (by (repeat' first | with_reducible exact E.out.fr | with_reducible refine Fresh.alloc ?_ _ _ | with_reducible refine Fresh.drew ?_ | with_reducible refine Fresh.setCell ?_ ?_ _ | (simp; done) | (simp; omega)))⟩
theorem r_e6 {w : World} (o k n b k' n' b' x y z : Int) (t : Bool) (E : Hid (EB w (((w.alloc (.cells #[.int .i64 k, .int .u64 n, .int .i64 b] 32)).alloc (.cells #[.int .i64 k', .int .u64 n', .int .i64 b'] 32)).alloc (.cells #[.int .i64 0, .int .u64 0, .int .i64 0] 32)) k n b k' n' b')) (I1 : Hid (∀ X, Fresh w X → Calls Try.prog 52 #[.pointer (some ⟨M, 0, none⟩), .agg #[.int .i64 k, .int .u64 n, .int .i64 b]] X fun e w' => e = .returned (.bool true) ∧ Fresh X w'))(I2 : Hid (∀ X, Fresh w X → Calls Try.prog 52 #[.pointer (some ⟨M, 0, none⟩), .agg #[.int .i64 k', .int .u64 n', .int .i64 b']] X fun e w' => e = .returned (.bool true) ∧ Fresh X w')) (h6 : (o == 46) = true) (h7 : (o == 47) = false) (hb : (b != b') = true) :
    Calls Try.prog 20 #[.pointer (some ⟨M, 0, none⟩), .int .i64 o, .agg #[.int .i64 k, .int .u64 n, .int .i64 b], .agg #[.int .i64 k', .int .u64 n', .int .i64 b']] w fun e w' => e = .returned (.tuple #[.agg #[.int .i64 1, .int .u64 0, .int .i64 0], .bool true]) ∧ Fresh w w' := by
  go_enter Try.func20, Try.ntmps20
  obtain ⟨x0, x1, x2⟩ := own_cells E.out.x
  obtain ⟨y0, y1, y2⟩ := own_cells E.out.y
  go_wp2_with fail
  clear x0 x1 x2 y0 y1 y2
  go_at_call 52; refine (I1.out _ E.out.fr).mono ?_; rintro e wq ⟨rfl, hq⟩; replace E := Lib.hid (E.out.later hq); clear hq
  obtain ⟨x0, x1, x2⟩ := own_cells E.out.x
  obtain ⟨y0, y1, y2⟩ := own_cells E.out.y
  go_wp2_with fail
  clear x0 x1 x2 y0 y1 y2
  go_at_call 52; refine (I2.out _ E.out.fr).mono ?_; rintro e wq ⟨rfl, hq⟩; replace E := Lib.hid (E.out.later hq); clear hq
  obtain ⟨x0, x1, x2⟩ := own_cells E.out.x
  obtain ⟨y0, y1, y2⟩ := own_cells E.out.y
  go_wp2_with fail
  clear x0 x1 x2 y0 y1 y2
  go_at_call 39; refine (int39 0 _).mono ?_; rintro e wq ⟨rfl, hq⟩; replace E := Lib.hid (E.out.later hq); clear hq
  obtain ⟨z0, z1, z2⟩ := own_cells E.out.z
  have qf := fun o => E.out.zf o
  go_wp2_with fail
  all_goals (refine bodyPost_ret (v := ?_) ?_ rfl ?_; rotate_left 1; focus (simp [results, Try.results20, go_sem, *]; (try rfl); done))
  all_goals exact ⟨rfl, (by (repeat' first | with_reducible exact E.out.fr | with_reducible refine Fresh.alloc ?_ _ _ | with_reducible refine Fresh.drew ?_ | with_reducible refine Fresh.setCell ?_ ?_ _ | (simp; done) | (simp; omega)))⟩
theorem r_e7 {w : World} (o k n b k' n' b' x y z : Int) (t : Bool) (E : Hid (EB w (((w.alloc (.cells #[.int .i64 k, .int .u64 n, .int .i64 b] 32)).alloc (.cells #[.int .i64 k', .int .u64 n', .int .i64 b'] 32)).alloc (.cells #[.int .i64 0, .int .u64 0, .int .i64 0] 32)) k n b k' n' b')) (I1 : Hid (∀ X, Fresh w X → Calls Try.prog 52 #[.pointer (some ⟨M, 0, none⟩), .agg #[.int .i64 k, .int .u64 n, .int .i64 b]] X fun e w' => e = .returned (.bool true) ∧ Fresh X w'))(I2 : Hid (∀ X, Fresh w X → Calls Try.prog 52 #[.pointer (some ⟨M, 0, none⟩), .agg #[.int .i64 k', .int .u64 n', .int .i64 b']] X fun e w' => e = .returned (.bool true) ∧ Fresh X w')) (h6 : (o == 46) = false) (h7 : (o == 47) = true) (hb : (b != b') = true) :
    Calls Try.prog 20 #[.pointer (some ⟨M, 0, none⟩), .int .i64 o, .agg #[.int .i64 k, .int .u64 n, .int .i64 b], .agg #[.int .i64 k', .int .u64 n', .int .i64 b']] w fun e w' => e = .returned (.tuple #[.agg #[.int .i64 1, .int .u64 1, .int .i64 0], .bool true]) ∧ Fresh w w' := by
  go_enter Try.func20, Try.ntmps20
  obtain ⟨x0, x1, x2⟩ := own_cells E.out.x
  obtain ⟨y0, y1, y2⟩ := own_cells E.out.y
  go_wp2_with fail
  clear x0 x1 x2 y0 y1 y2
  go_at_call 52; refine (I1.out _ E.out.fr).mono ?_; rintro e wq ⟨rfl, hq⟩; replace E := Lib.hid (E.out.later hq); clear hq
  obtain ⟨x0, x1, x2⟩ := own_cells E.out.x
  obtain ⟨y0, y1, y2⟩ := own_cells E.out.y
  go_wp2_with fail
  clear x0 x1 x2 y0 y1 y2
  go_at_call 52; refine (I2.out _ E.out.fr).mono ?_; rintro e wq ⟨rfl, hq⟩; replace E := Lib.hid (E.out.later hq); clear hq
  obtain ⟨x0, x1, x2⟩ := own_cells E.out.x
  obtain ⟨y0, y1, y2⟩ := own_cells E.out.y
  go_wp2_with fail
  clear x0 x1 x2 y0 y1 y2
  go_at_call 39; refine (int39 1 _).mono ?_; rintro e wq ⟨rfl, hq⟩; replace E := Lib.hid (E.out.later hq); clear hq
  obtain ⟨z0, z1, z2⟩ := own_cells E.out.z
  have qf := fun o => E.out.zf o
  go_wp2_with fail
  all_goals (refine bodyPost_ret (v := ?_) ?_ rfl ?_; rotate_left 1; focus (simp [results, Try.results20, go_sem, *]; (try rfl); done))
  all_goals exact ⟨rfl, (by (repeat' first | with_reducible exact E.out.fr | with_reducible refine Fresh.alloc ?_ _ _ | with_reducible refine Fresh.drew ?_ | with_reducible refine Fresh.setCell ?_ ?_ _ | (simp; done) | (simp; omega)))⟩
end
end Go.Proofs.Ytjbflmpnmobngaa
