/- Which addresses are in their block. -/
import Derived.Test.YtjbflmpnmobngaaMt
namespace Go.Proofs.Ytjbflmpnmobngaa
set_option linter.unusedSimpArgs false
set_option linter.unusedVariables false
open Go.RowKit

theorem isEq_any (o : Int) (w : World) : Calls Try.prog 48 #[.int .i64 o] w fun e w' => e = .returned (.bool (o == 46 || o == 47)) ∧ w = w' := by
  go_enter Try.func48, Try.ntmps48
  go_wp2
  all_goals (go_returns; go_light)
  all_goals exact ⟨ret_bool (by simp_all), rfl⟩
theorem isOrd_any (o : Int) (w : World) : Calls Try.prog 50 #[.int .i64 o] w fun e w' => e = .returned (.bool (decide (48 ≤ o) && decide (o ≤ 55))) ∧ w = w' := by
  go_enter Try.func50, Try.ntmps50
  go_wp2
  all_goals (go_returns; go_light)
  all_goals exact ⟨ret_bool (by first | (simp_all; done) | (simp_all; omega)), rfl⟩
set_option maxHeartbeats 1000000 in
theorem in_neg (M mb N : Nat) (f : Int → Option Value) (k n b : Int) (hb : Key b) (B : Nat) (sz : Int) (hv : atL f k b = .pointer (some ⟨B, 0, none⟩)) (h1 : wrap64 n < 0) (w : World) (h : Mm w M mb N f) (hs : w.cell? ⟨B, 0, none⟩ = some (.int .i64 sz)) :
    Calls Try.prog 49 #[.pointer (some ⟨M, 0, none⟩), .agg #[.int .i64 k, .int .u64 n, .int .i64 b]] w fun e w' => e = .returned (.bool false) ∧ Fresh w w' := by
  have o5 := Own.new' w k n b
  have H := Lib.hid (h.later ((Fresh.refl w).alloc #[.int .i64 k, .int .u64 n, .int .i64 b] 32))
  have HV := Lib.hid hv
  have HS : Hid (AtC (w.alloc (.cells #[.int .i64 k, .int .u64 n, .int .i64 b] 32)) ⟨B, 0, none⟩ (.int .i64 sz)) := Lib.hid (AtC.mk (((Fresh.refl w).alloc #[.int .i64 k, .int .u64 n, .int .i64 b] 32).cellOf (cell_lt hs) hs))
  clear h hv hs
  go_enter Try.func49, Try.ntmps49
  go_wp2_with fail
  go_region_held3 (fun w' => w'.cell? ⟨w.heap.size, 0, none⟩ = some (.int .i64 k) ∧ w'.cell? ⟨w.heap.size, 1, none⟩ = some (.int .u64 n) ∧ w'.cell? ⟨w.heap.size, 2, none⟩ = some (.int .i64 b) ∧ w'.cell? ⟨B, 0, none⟩ = some (.int .i64 sz)) (exact own_cells2 (o5.later (by (repeat' first | with_reducible exact Fresh.refl _ | with_reducible assumption | with_reducible refine Fresh.alloc ?_ _ _ | with_reducible refine Fresh.drew ?_ | with_reducible refine Fresh.setCell ?_ ?_ _ | with_reducible refine Fresh.trans ?_ (by assumption) | (simp; done) | (simp; omega)))) (HS.out.trans (by (repeat' first | with_reducible exact Fresh.refl _ | with_reducible assumption | with_reducible refine Fresh.alloc ?_ _ _ | with_reducible refine Fresh.drew ?_ | with_reducible refine Fresh.setCell ?_ ?_ _ | with_reducible refine Fresh.trans ?_ (by assumption) | (simp; done) | (simp; omega)))))
    (first | (go_at_call 61; refine (addressed_lit M mb N f _ _ _ hb _ HV.out _ (H.out.later (by (repeat' first | with_reducible exact Fresh.refl _ | with_reducible assumption | with_reducible refine Fresh.alloc ?_ _ _ | with_reducible refine Fresh.drew ?_ | with_reducible refine Fresh.setCell ?_ ?_ _ | with_reducible refine Fresh.trans ?_ (by assumption) | (simp; done) | (simp; omega))))).mono ?_; rintro e w1 ⟨rfl, h1⟩; have o5 := o5.later (by (repeat' first | with_reducible exact Fresh.refl _ | with_reducible assumption | with_reducible refine Fresh.alloc ?_ _ _ | with_reducible refine Fresh.drew ?_ | with_reducible refine Fresh.setCell ?_ ?_ _ | with_reducible refine Fresh.trans ?_ (by assumption) | (simp; done) | (simp; omega)) : Fresh _ w1)))
  all_goals (try go_wp2)
  all_goals go_light
  all_goals go_returns
  all_goals refine ⟨by first | rfl | exact ret_bool (by simp; omega), ?_⟩
  all_goals (repeat' first | with_reducible exact Fresh.refl _ | with_reducible assumption | with_reducible refine Fresh.alloc ?_ _ _ | with_reducible refine Fresh.drew ?_ | with_reducible refine Fresh.setCell ?_ ?_ _ | with_reducible refine Fresh.trans ?_ (by assumption) | (simp; done) | (simp; omega))
set_option maxHeartbeats 1000000 in
theorem in_far (M mb N : Nat) (f : Int → Option Value) (k n b : Int) (hb : Key b) (B : Nat) (sz : Int) (hv : atL f k b = .pointer (some ⟨B, 0, none⟩)) (h1 : 0 ≤ wrap64 n) (h2 : sz ≤ wrap64 n) (w : World) (h : Mm w M mb N f) (hs : w.cell? ⟨B, 0, none⟩ = some (.int .i64 sz)) :
    Calls Try.prog 49 #[.pointer (some ⟨M, 0, none⟩), .agg #[.int .i64 k, .int .u64 n, .int .i64 b]] w fun e w' => e = .returned (.bool false) ∧ Fresh w w' := by
  have o5 := Own.new' w k n b
  have H := Lib.hid (h.later ((Fresh.refl w).alloc #[.int .i64 k, .int .u64 n, .int .i64 b] 32))
  have HV := Lib.hid hv
  have HS : Hid (AtC (w.alloc (.cells #[.int .i64 k, .int .u64 n, .int .i64 b] 32)) ⟨B, 0, none⟩ (.int .i64 sz)) := Lib.hid (AtC.mk (((Fresh.refl w).alloc #[.int .i64 k, .int .u64 n, .int .i64 b] 32).cellOf (cell_lt hs) hs))
  clear h hv hs
  go_enter Try.func49, Try.ntmps49
  go_wp2_with fail
  go_region_held3 (fun w' => w'.cell? ⟨w.heap.size, 0, none⟩ = some (.int .i64 k) ∧ w'.cell? ⟨w.heap.size, 1, none⟩ = some (.int .u64 n) ∧ w'.cell? ⟨w.heap.size, 2, none⟩ = some (.int .i64 b) ∧ w'.cell? ⟨B, 0, none⟩ = some (.int .i64 sz)) (exact own_cells2 (o5.later (by (repeat' first | with_reducible exact Fresh.refl _ | with_reducible assumption | with_reducible refine Fresh.alloc ?_ _ _ | with_reducible refine Fresh.drew ?_ | with_reducible refine Fresh.setCell ?_ ?_ _ | with_reducible refine Fresh.trans ?_ (by assumption) | (simp; done) | (simp; omega)))) (HS.out.trans (by (repeat' first | with_reducible exact Fresh.refl _ | with_reducible assumption | with_reducible refine Fresh.alloc ?_ _ _ | with_reducible refine Fresh.drew ?_ | with_reducible refine Fresh.setCell ?_ ?_ _ | with_reducible refine Fresh.trans ?_ (by assumption) | (simp; done) | (simp; omega)))))
    (first | (go_at_call 61; refine (addressed_lit M mb N f _ _ _ hb _ HV.out _ (H.out.later (by (repeat' first | with_reducible exact Fresh.refl _ | with_reducible assumption | with_reducible refine Fresh.alloc ?_ _ _ | with_reducible refine Fresh.drew ?_ | with_reducible refine Fresh.setCell ?_ ?_ _ | with_reducible refine Fresh.trans ?_ (by assumption) | (simp; done) | (simp; omega))))).mono ?_; rintro e w1 ⟨rfl, h1⟩; have o5 := o5.later (by (repeat' first | with_reducible exact Fresh.refl _ | with_reducible assumption | with_reducible refine Fresh.alloc ?_ _ _ | with_reducible refine Fresh.drew ?_ | with_reducible refine Fresh.setCell ?_ ?_ _ | with_reducible refine Fresh.trans ?_ (by assumption) | (simp; done) | (simp; omega)) : Fresh _ w1)))
  all_goals (try go_wp2)
  all_goals go_light
  all_goals go_returns
  all_goals refine ⟨by first | rfl | exact ret_bool (by simp; omega), ?_⟩
  all_goals (repeat' first | with_reducible exact Fresh.refl _ | with_reducible assumption | with_reducible refine Fresh.alloc ?_ _ _ | with_reducible refine Fresh.drew ?_ | with_reducible refine Fresh.setCell ?_ ?_ _ | with_reducible refine Fresh.trans ?_ (by assumption) | (simp; done) | (simp; omega))
set_option maxHeartbeats 1000000 in
theorem in_ok (M mb N : Nat) (f : Int → Option Value) (k n b : Int) (hb : Key b) (B : Nat) (sz : Int) (hv : atL f k b = .pointer (some ⟨B, 0, none⟩)) (h1 : 0 ≤ wrap64 n) (h2 : wrap64 n < sz) (w : World) (h : Mm w M mb N f) (hs : w.cell? ⟨B, 0, none⟩ = some (.int .i64 sz)) :
    Calls Try.prog 49 #[.pointer (some ⟨M, 0, none⟩), .agg #[.int .i64 k, .int .u64 n, .int .i64 b]] w fun e w' => e = .returned (.bool true) ∧ Fresh w w' := by
  have o5 := Own.new' w k n b
  have H := Lib.hid (h.later ((Fresh.refl w).alloc #[.int .i64 k, .int .u64 n, .int .i64 b] 32))
  have HV := Lib.hid hv
  have HS : Hid (AtC (w.alloc (.cells #[.int .i64 k, .int .u64 n, .int .i64 b] 32)) ⟨B, 0, none⟩ (.int .i64 sz)) := Lib.hid (AtC.mk (((Fresh.refl w).alloc #[.int .i64 k, .int .u64 n, .int .i64 b] 32).cellOf (cell_lt hs) hs))
  clear h hv hs
  go_enter Try.func49, Try.ntmps49
  go_wp2_with fail
  go_region_held3 (fun w' => w'.cell? ⟨w.heap.size, 0, none⟩ = some (.int .i64 k) ∧ w'.cell? ⟨w.heap.size, 1, none⟩ = some (.int .u64 n) ∧ w'.cell? ⟨w.heap.size, 2, none⟩ = some (.int .i64 b) ∧ w'.cell? ⟨B, 0, none⟩ = some (.int .i64 sz)) (exact own_cells2 (o5.later (by (repeat' first | with_reducible exact Fresh.refl _ | with_reducible assumption | with_reducible refine Fresh.alloc ?_ _ _ | with_reducible refine Fresh.drew ?_ | with_reducible refine Fresh.setCell ?_ ?_ _ | with_reducible refine Fresh.trans ?_ (by assumption) | (simp; done) | (simp; omega)))) (HS.out.trans (by (repeat' first | with_reducible exact Fresh.refl _ | with_reducible assumption | with_reducible refine Fresh.alloc ?_ _ _ | with_reducible refine Fresh.drew ?_ | with_reducible refine Fresh.setCell ?_ ?_ _ | with_reducible refine Fresh.trans ?_ (by assumption) | (simp; done) | (simp; omega)))))
    (first | (go_at_call 61; refine (addressed_lit M mb N f _ _ _ hb _ HV.out _ (H.out.later (by (repeat' first | with_reducible exact Fresh.refl _ | with_reducible assumption | with_reducible refine Fresh.alloc ?_ _ _ | with_reducible refine Fresh.drew ?_ | with_reducible refine Fresh.setCell ?_ ?_ _ | with_reducible refine Fresh.trans ?_ (by assumption) | (simp; done) | (simp; omega))))).mono ?_; rintro e w1 ⟨rfl, h1⟩; have o5 := o5.later (by (repeat' first | with_reducible exact Fresh.refl _ | with_reducible assumption | with_reducible refine Fresh.alloc ?_ _ _ | with_reducible refine Fresh.drew ?_ | with_reducible refine Fresh.setCell ?_ ?_ _ | with_reducible refine Fresh.trans ?_ (by assumption) | (simp; done) | (simp; omega)) : Fresh _ w1)))
  all_goals (try go_wp2)
  all_goals go_light
  all_goals go_returns
  all_goals refine ⟨by first | rfl | exact ret_bool (by simp; omega), ?_⟩
  all_goals (repeat' first | with_reducible exact Fresh.refl _ | with_reducible assumption | with_reducible refine Fresh.alloc ?_ _ _ | with_reducible refine Fresh.drew ?_ | with_reducible refine Fresh.setCell ?_ ?_ _ | with_reducible refine Fresh.trans ?_ (by assumption) | (simp; done) | (simp; omega))
set_option maxHeartbeats 1000000 in
theorem ends_neg (M mb N : Nat) (f : Int → Option Value) (k n b : Int) (hb : Key b) (B : Nat) (sz : Int) (hv : atL f k b = .pointer (some ⟨B, 0, none⟩)) (h1 : wrap64 n < 0) (w : World) (h : Mm w M mb N f) (hs : w.cell? ⟨B, 0, none⟩ = some (.int .i64 sz)) :
    Calls Try.prog 51 #[.pointer (some ⟨M, 0, none⟩), .agg #[.int .i64 k, .int .u64 n, .int .i64 b]] w fun e w' => e = .returned (.bool false) ∧ Fresh w w' := by
  have o5 := Own.new' w k n b
  have H := Lib.hid (h.later ((Fresh.refl w).alloc #[.int .i64 k, .int .u64 n, .int .i64 b] 32))
  have HV := Lib.hid hv
  have HS : Hid (AtC (w.alloc (.cells #[.int .i64 k, .int .u64 n, .int .i64 b] 32)) ⟨B, 0, none⟩ (.int .i64 sz)) := Lib.hid (AtC.mk (((Fresh.refl w).alloc #[.int .i64 k, .int .u64 n, .int .i64 b] 32).cellOf (cell_lt hs) hs))
  clear h hv hs
  go_enter Try.func51, Try.ntmps51
  go_wp2_with fail
  go_region_held3 (fun w' => w'.cell? ⟨w.heap.size, 0, none⟩ = some (.int .i64 k) ∧ w'.cell? ⟨w.heap.size, 1, none⟩ = some (.int .u64 n) ∧ w'.cell? ⟨w.heap.size, 2, none⟩ = some (.int .i64 b) ∧ w'.cell? ⟨B, 0, none⟩ = some (.int .i64 sz)) (exact own_cells2 (o5.later (by (repeat' first | with_reducible exact Fresh.refl _ | with_reducible assumption | with_reducible refine Fresh.alloc ?_ _ _ | with_reducible refine Fresh.drew ?_ | with_reducible refine Fresh.setCell ?_ ?_ _ | with_reducible refine Fresh.trans ?_ (by assumption) | (simp; done) | (simp; omega)))) (HS.out.trans (by (repeat' first | with_reducible exact Fresh.refl _ | with_reducible assumption | with_reducible refine Fresh.alloc ?_ _ _ | with_reducible refine Fresh.drew ?_ | with_reducible refine Fresh.setCell ?_ ?_ _ | with_reducible refine Fresh.trans ?_ (by assumption) | (simp; done) | (simp; omega)))))
    (first | (go_at_call 61; refine (addressed_lit M mb N f _ _ _ hb _ HV.out _ (H.out.later (by (repeat' first | with_reducible exact Fresh.refl _ | with_reducible assumption | with_reducible refine Fresh.alloc ?_ _ _ | with_reducible refine Fresh.drew ?_ | with_reducible refine Fresh.setCell ?_ ?_ _ | with_reducible refine Fresh.trans ?_ (by assumption) | (simp; done) | (simp; omega))))).mono ?_; rintro e w1 ⟨rfl, h1⟩; have o5 := o5.later (by (repeat' first | with_reducible exact Fresh.refl _ | with_reducible assumption | with_reducible refine Fresh.alloc ?_ _ _ | with_reducible refine Fresh.drew ?_ | with_reducible refine Fresh.setCell ?_ ?_ _ | with_reducible refine Fresh.trans ?_ (by assumption) | (simp; done) | (simp; omega)) : Fresh _ w1)))
  all_goals (try go_wp2)
  all_goals go_light
  all_goals go_returns
  all_goals refine ⟨by first | rfl | exact ret_bool (by simp; omega), ?_⟩
  all_goals (repeat' first | with_reducible exact Fresh.refl _ | with_reducible assumption | with_reducible refine Fresh.alloc ?_ _ _ | with_reducible refine Fresh.drew ?_ | with_reducible refine Fresh.setCell ?_ ?_ _ | with_reducible refine Fresh.trans ?_ (by assumption) | (simp; done) | (simp; omega))
set_option maxHeartbeats 1000000 in
theorem ends_far (M mb N : Nat) (f : Int → Option Value) (k n b : Int) (hb : Key b) (B : Nat) (sz : Int) (hv : atL f k b = .pointer (some ⟨B, 0, none⟩)) (h1 : 0 ≤ wrap64 n) (h2 : sz < wrap64 n) (w : World) (h : Mm w M mb N f) (hs : w.cell? ⟨B, 0, none⟩ = some (.int .i64 sz)) :
    Calls Try.prog 51 #[.pointer (some ⟨M, 0, none⟩), .agg #[.int .i64 k, .int .u64 n, .int .i64 b]] w fun e w' => e = .returned (.bool false) ∧ Fresh w w' := by
  have o5 := Own.new' w k n b
  have H := Lib.hid (h.later ((Fresh.refl w).alloc #[.int .i64 k, .int .u64 n, .int .i64 b] 32))
  have HV := Lib.hid hv
  have HS : Hid (AtC (w.alloc (.cells #[.int .i64 k, .int .u64 n, .int .i64 b] 32)) ⟨B, 0, none⟩ (.int .i64 sz)) := Lib.hid (AtC.mk (((Fresh.refl w).alloc #[.int .i64 k, .int .u64 n, .int .i64 b] 32).cellOf (cell_lt hs) hs))
  clear h hv hs
  go_enter Try.func51, Try.ntmps51
  go_wp2_with fail
  go_region_held3 (fun w' => w'.cell? ⟨w.heap.size, 0, none⟩ = some (.int .i64 k) ∧ w'.cell? ⟨w.heap.size, 1, none⟩ = some (.int .u64 n) ∧ w'.cell? ⟨w.heap.size, 2, none⟩ = some (.int .i64 b) ∧ w'.cell? ⟨B, 0, none⟩ = some (.int .i64 sz)) (exact own_cells2 (o5.later (by (repeat' first | with_reducible exact Fresh.refl _ | with_reducible assumption | with_reducible refine Fresh.alloc ?_ _ _ | with_reducible refine Fresh.drew ?_ | with_reducible refine Fresh.setCell ?_ ?_ _ | with_reducible refine Fresh.trans ?_ (by assumption) | (simp; done) | (simp; omega)))) (HS.out.trans (by (repeat' first | with_reducible exact Fresh.refl _ | with_reducible assumption | with_reducible refine Fresh.alloc ?_ _ _ | with_reducible refine Fresh.drew ?_ | with_reducible refine Fresh.setCell ?_ ?_ _ | with_reducible refine Fresh.trans ?_ (by assumption) | (simp; done) | (simp; omega)))))
    (first | (go_at_call 61; refine (addressed_lit M mb N f _ _ _ hb _ HV.out _ (H.out.later (by (repeat' first | with_reducible exact Fresh.refl _ | with_reducible assumption | with_reducible refine Fresh.alloc ?_ _ _ | with_reducible refine Fresh.drew ?_ | with_reducible refine Fresh.setCell ?_ ?_ _ | with_reducible refine Fresh.trans ?_ (by assumption) | (simp; done) | (simp; omega))))).mono ?_; rintro e w1 ⟨rfl, h1⟩; have o5 := o5.later (by (repeat' first | with_reducible exact Fresh.refl _ | with_reducible assumption | with_reducible refine Fresh.alloc ?_ _ _ | with_reducible refine Fresh.drew ?_ | with_reducible refine Fresh.setCell ?_ ?_ _ | with_reducible refine Fresh.trans ?_ (by assumption) | (simp; done) | (simp; omega)) : Fresh _ w1)))
  all_goals (try go_wp2)
  all_goals go_light
  all_goals go_returns
  all_goals refine ⟨by first | rfl | exact ret_bool (by simp; omega), ?_⟩
  all_goals (repeat' first | with_reducible exact Fresh.refl _ | with_reducible assumption | with_reducible refine Fresh.alloc ?_ _ _ | with_reducible refine Fresh.drew ?_ | with_reducible refine Fresh.setCell ?_ ?_ _ | with_reducible refine Fresh.trans ?_ (by assumption) | (simp; done) | (simp; omega))
set_option maxHeartbeats 1000000 in
theorem ends_ok (M mb N : Nat) (f : Int → Option Value) (k n b : Int) (hb : Key b) (B : Nat) (sz : Int) (hv : atL f k b = .pointer (some ⟨B, 0, none⟩)) (h1 : 0 ≤ wrap64 n) (h2 : wrap64 n ≤ sz) (w : World) (h : Mm w M mb N f) (hs : w.cell? ⟨B, 0, none⟩ = some (.int .i64 sz)) :
    Calls Try.prog 51 #[.pointer (some ⟨M, 0, none⟩), .agg #[.int .i64 k, .int .u64 n, .int .i64 b]] w fun e w' => e = .returned (.bool true) ∧ Fresh w w' := by
  have o5 := Own.new' w k n b
  have H := Lib.hid (h.later ((Fresh.refl w).alloc #[.int .i64 k, .int .u64 n, .int .i64 b] 32))
  have HV := Lib.hid hv
  have HS : Hid (AtC (w.alloc (.cells #[.int .i64 k, .int .u64 n, .int .i64 b] 32)) ⟨B, 0, none⟩ (.int .i64 sz)) := Lib.hid (AtC.mk (((Fresh.refl w).alloc #[.int .i64 k, .int .u64 n, .int .i64 b] 32).cellOf (cell_lt hs) hs))
  clear h hv hs
  go_enter Try.func51, Try.ntmps51
  go_wp2_with fail
  go_region_held3 (fun w' => w'.cell? ⟨w.heap.size, 0, none⟩ = some (.int .i64 k) ∧ w'.cell? ⟨w.heap.size, 1, none⟩ = some (.int .u64 n) ∧ w'.cell? ⟨w.heap.size, 2, none⟩ = some (.int .i64 b) ∧ w'.cell? ⟨B, 0, none⟩ = some (.int .i64 sz)) (exact own_cells2 (o5.later (by (repeat' first | with_reducible exact Fresh.refl _ | with_reducible assumption | with_reducible refine Fresh.alloc ?_ _ _ | with_reducible refine Fresh.drew ?_ | with_reducible refine Fresh.setCell ?_ ?_ _ | with_reducible refine Fresh.trans ?_ (by assumption) | (simp; done) | (simp; omega)))) (HS.out.trans (by (repeat' first | with_reducible exact Fresh.refl _ | with_reducible assumption | with_reducible refine Fresh.alloc ?_ _ _ | with_reducible refine Fresh.drew ?_ | with_reducible refine Fresh.setCell ?_ ?_ _ | with_reducible refine Fresh.trans ?_ (by assumption) | (simp; done) | (simp; omega)))))
    (first | (go_at_call 61; refine (addressed_lit M mb N f _ _ _ hb _ HV.out _ (H.out.later (by (repeat' first | with_reducible exact Fresh.refl _ | with_reducible assumption | with_reducible refine Fresh.alloc ?_ _ _ | with_reducible refine Fresh.drew ?_ | with_reducible refine Fresh.setCell ?_ ?_ _ | with_reducible refine Fresh.trans ?_ (by assumption) | (simp; done) | (simp; omega))))).mono ?_; rintro e w1 ⟨rfl, h1⟩; have o5 := o5.later (by (repeat' first | with_reducible exact Fresh.refl _ | with_reducible assumption | with_reducible refine Fresh.alloc ?_ _ _ | with_reducible refine Fresh.drew ?_ | with_reducible refine Fresh.setCell ?_ ?_ _ | with_reducible refine Fresh.trans ?_ (by assumption) | (simp; done) | (simp; omega)) : Fresh _ w1)))
  all_goals (try go_wp2)
  all_goals go_light
  all_goals go_returns
  all_goals refine ⟨by first | rfl | exact ret_bool (by simp; omega), ?_⟩
  all_goals (repeat' first | with_reducible exact Fresh.refl _ | with_reducible assumption | with_reducible refine Fresh.alloc ?_ _ _ | with_reducible refine Fresh.drew ?_ | with_reducible refine Fresh.setCell ?_ ?_ _ | with_reducible refine Fresh.trans ?_ (by assumption) | (simp; done) | (simp; omega))
end Go.Proofs.Ytjbflmpnmobngaa
