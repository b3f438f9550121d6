/- Where an access goes. -/
import Derived.Test.YtjbflmpnmobngaaMb
namespace Go.Proofs.Ytjbflmpnmobngaa
set_option linter.unusedSimpArgs false
set_option linter.unusedVariables false
open Go.RowKit

/-- A memory's own two cells, and its map of blocks. -/
structure Mm (w : World) (M mb N : Nat) (f : Int → Option Value) : Prop where
  c0 : w.cell? ⟨M, 0, none⟩ = some (.map (some mb))
  mp : MapF Try.prog 3 w mb N f
theorem Mm.lt {w : World} {M mb N : Nat} {f : Int → Option Value} (h : Mm w M mb N f) : mb < w.heap.size := h.mp.lt
theorem cell_lt {w : World} {a : Addr} {v : Value} (h : w.cell? a = some v) : a.block < w.heap.size := by
  by_cases hh : a.block < w.heap.size
  · exact hh
  · have : w.heap[a.block]? = none := Array.getElem?_eq_none (by omega)
    simp [World.cell?, this] at h
theorem Mm.later {w w' : World} {M mb N : Nat} {f : Int → Option Value} (h : Mm w M mb N f) (hf : Fresh w w') : Mm w' M mb N f :=
  ⟨hf.cellOf (cell_lt h.c0) h.c0, h.mp.block (hf.below.block mb h.mp.lt)⟩
def atL (f : Int → Option Value) (k b : Int) : Value := if k != 4 then .pointer none else (f b).getD (.pointer none)
theorem addressed_any (M mb N : Nat) (f : Int → Option Value) (k n b : Int) (hb : Key b) (w : World) (h : Mm w M mb N f) :
    Calls Try.prog 61 #[.pointer (some ⟨M, 0, none⟩), .agg #[.int .i64 k, .int .u64 n, .int .i64 b]] w fun e w' => e = .returned (atL f k b) ∧ Fresh w w' := by
  have h' := h.later ((Fresh.refl w).alloc #[.int .i64 k, .int .u64 n, .int .i64 b] 32)
  have H := Lib.hid h'
  clear h h'
  go_enter Try.func61, Try.ntmps61
  go_wp2_with (go_at_call 31; refine (live_any M mb N f b hb _ H.out.c0 H.out.mp).mono ?_; rintro e w' ⟨rfl, rfl⟩)
  all_goals (go_returns; go_light)
  all_goals exact ⟨ret_ptr (by simp [atL, *]), (Fresh.refl _).alloc _ _⟩
theorem addressed_lit (M mb N : Nat) (f : Int → Option Value) (k n b : Int) (hb : Key b) (v : Value) (hv : atL f k b = v) (w : World) (h : Mm w M mb N f) :
    Calls Try.prog 61 #[.pointer (some ⟨M, 0, none⟩), .agg #[.int .i64 k, .int .u64 n, .int .i64 b]] w fun e w' => e = .returned v ∧ Fresh w w' := by
  subst hv; exact addressed_any M mb N f k n b hb w h
theorem own_cells {w : World} {B : Nat} {k n b : Int} (h : Own w B k n b) : w.cell? ⟨B, 0, none⟩ = some (.int .i64 k) ∧ w.cell? ⟨B, 1, none⟩ = some (.int .u64 n) ∧ w.cell? ⟨B, 2, none⟩ = some (.int .i64 b) := ⟨h.c0, h.c1, h.c2⟩
theorem Own.new' (w : World) (k n b : Int) : Own (w.alloc (.cells #[.int .i64 k, .int .u64 n, .int .i64 b] 32)) w.heap.size k n b :=
  ⟨by simp, by simp [go_sem], by simp [go_sem], by simp [go_sem]⟩
/-- Nothing lies there. -/
theorem reach_none (M mb N : Nat) (f : Int → Option Value) (c k n b : Int) (hb : Key b) (hv : atL f k b = .pointer none) (w : World) (h : Mm w M mb N f) :
    Calls Try.prog 33 #[.pointer (some ⟨M, 0, none⟩), .int .i64 c, .agg #[.int .i64 k, .int .u64 n, .int .i64 b]] w fun e w' => e = .returned (.tuple #[.pointer none, .int .i64 0]) ∧ Fresh w w' := by
  have o5 := Own.new' w k n b
  have H := Lib.hid (h.later ((Fresh.refl w).alloc #[.int .i64 k, .int .u64 n, .int .i64 b] 32))
  have HV := Lib.hid hv
  clear h hv
  go_enter Try.func33, Try.ntmps33
  go_wp2_with fail
  go_region_held3 (fun w' => w'.cell? ⟨w.heap.size, 0, none⟩ = some (.int .i64 k) ∧ w'.cell? ⟨w.heap.size, 1, none⟩ = some (.int .u64 n) ∧ w'.cell? ⟨w.heap.size, 2, none⟩ = some (.int .i64 b)) (exact own_cells (o5.later (by (repeat' first | with_reducible exact Fresh.refl _ | with_reducible assumption | with_reducible refine Fresh.alloc ?_ _ _ | with_reducible refine Fresh.drew ?_ | with_reducible refine Fresh.setCell ?_ ?_ _ | with_reducible refine Fresh.trans ?_ (by assumption) | (simp; done) | (simp; omega)))))
    (first | (go_at_call 61; refine (addressed_lit M mb N f _ _ _ hb _ HV.out _ (H.out.later (by (repeat' first | with_reducible exact Fresh.refl _ | with_reducible assumption | with_reducible refine Fresh.alloc ?_ _ _ | with_reducible refine Fresh.drew ?_ | with_reducible refine Fresh.setCell ?_ ?_ _ | with_reducible refine Fresh.trans ?_ (by assumption) | (simp; done) | (simp; omega))))).mono ?_; rintro e w1 ⟨rfl, h1⟩) | (go_at_call 26; refine (size_any _ _).mono ?_; rintro e w' ⟨rfl, rfl⟩))
  all_goals (try go_wp2)
  all_goals go_light
  all_goals go_returns
  all_goals exact ⟨rfl, by (repeat' first | with_reducible exact Fresh.refl _ | with_reducible assumption | with_reducible refine Fresh.alloc ?_ _ _ | with_reducible refine Fresh.drew ?_ | with_reducible refine Fresh.setCell ?_ ?_ _ | with_reducible refine Fresh.trans ?_ (by assumption) | (simp; done) | (simp; omega))⟩
theorem size_lit (c v : Int) (h : sizeL c = v) (w : World) : Calls Try.prog 26 #[.int .i64 c] w fun e w' => e = .returned (.int .i64 v) ∧ w = w' := by
  subst h; exact size_any c w
/-- A cell that holds a value. -/
structure AtC (w : World) (a : Addr) (v : Value) : Prop where
  mk :: c : w.cell? a = some v
theorem AtC.trans {w w' : World} {a : Addr} {v : Value} (h : AtC w a v) (hf : Fresh w w') : AtC w' a v := ⟨by rw [hf.below.cell (cell_lt h.c), h.c]⟩
theorem own_cells2 {w : World} {B : Nat} {k n b : Int} {a : Addr} {v : Value} (h : Own w B k n b) (hs : AtC w a v) : w.cell? ⟨B, 0, none⟩ = some (.int .i64 k) ∧ w.cell? ⟨B, 1, none⟩ = some (.int .u64 n) ∧ w.cell? ⟨B, 2, none⟩ = some (.int .i64 b) ∧ w.cell? a = some v := ⟨h.c0, h.c1, h.c2, hs.c⟩
set_option maxHeartbeats 2000000 in
theorem reach_zero (M mb N : Nat) (f : Int → Option Value) (c k n b : Int) (hb : Key b) (B : Nat) (sz : Int) (hv : atL f k b = .pointer (some ⟨B, 0, none⟩)) (hc : sizeL c = 0) (w : World) (h : Mm w M mb N f) (hs : w.cell? ⟨B, 0, none⟩ = some (.int .i64 sz)) :
    Calls Try.prog 33 #[.pointer (some ⟨M, 0, none⟩), .int .i64 c, .agg #[.int .i64 k, .int .u64 n, .int .i64 b]] w fun e w' => e = .returned (.tuple #[.pointer none, .int .i64 0]) ∧ Fresh w w' := by
  have o5 := Own.new' w k n b
  have H := Lib.hid (h.later ((Fresh.refl w).alloc #[.int .i64 k, .int .u64 n, .int .i64 b] 32))
  have HV := Lib.hid hv
  have HC := Lib.hid hc
  have HS : Hid (AtC (w.alloc (.cells #[.int .i64 k, .int .u64 n, .int .i64 b] 32)) ⟨B, 0, none⟩ (.int .i64 sz)) := Lib.hid (AtC.mk (((Fresh.refl w).alloc #[.int .i64 k, .int .u64 n, .int .i64 b] 32).cellOf (cell_lt hs) hs))
  clear h hv hc hs
  go_enter Try.func33, Try.ntmps33
  go_wp2_with fail
  go_region_held3 (fun w' => w'.cell? ⟨w.heap.size, 0, none⟩ = some (.int .i64 k) ∧ w'.cell? ⟨w.heap.size, 1, none⟩ = some (.int .u64 n) ∧ w'.cell? ⟨w.heap.size, 2, none⟩ = some (.int .i64 b) ∧ w'.cell? ⟨B, 0, none⟩ = some (.int .i64 sz)) (exact own_cells2 (o5.later (by (repeat' first | with_reducible exact Fresh.refl _ | with_reducible assumption | with_reducible refine Fresh.alloc ?_ _ _ | with_reducible refine Fresh.drew ?_ | with_reducible refine Fresh.setCell ?_ ?_ _ | with_reducible refine Fresh.trans ?_ (by assumption) | (simp; done) | (simp; omega)))) (HS.out.trans (by (repeat' first | with_reducible exact Fresh.refl _ | with_reducible assumption | with_reducible refine Fresh.alloc ?_ _ _ | with_reducible refine Fresh.drew ?_ | with_reducible refine Fresh.setCell ?_ ?_ _ | with_reducible refine Fresh.trans ?_ (by assumption) | (simp; done) | (simp; omega)))))
    (first | (go_at_call 61; refine (addressed_lit M mb N f _ _ _ hb _ HV.out _ (H.out.later (by (repeat' first | with_reducible exact Fresh.refl _ | with_reducible assumption | with_reducible refine Fresh.alloc ?_ _ _ | with_reducible refine Fresh.drew ?_ | with_reducible refine Fresh.setCell ?_ ?_ _ | with_reducible refine Fresh.trans ?_ (by assumption) | (simp; done) | (simp; omega))))).mono ?_; rintro e w1 ⟨rfl, h1⟩; have o5 := o5.later (by (repeat' first | with_reducible exact Fresh.refl _ | with_reducible assumption | with_reducible refine Fresh.alloc ?_ _ _ | with_reducible refine Fresh.drew ?_ | with_reducible refine Fresh.setCell ?_ ?_ _ | with_reducible refine Fresh.trans ?_ (by assumption) | (simp; done) | (simp; omega)) : Fresh _ w1)) | (go_at_call 26; refine (size_lit _ _ HC.out _).mono ?_; rintro e w' ⟨rfl, rfl⟩))
  all_goals (try go_wp2)
  all_goals go_light
  all_goals go_returns
  all_goals exact ⟨rfl, by (repeat' first | with_reducible exact Fresh.refl _ | with_reducible assumption | with_reducible refine Fresh.alloc ?_ _ _ | with_reducible refine Fresh.drew ?_ | with_reducible refine Fresh.setCell ?_ ?_ _ | with_reducible refine Fresh.trans ?_ (by assumption) | (simp; done) | (simp; omega))⟩
set_option maxHeartbeats 2000000 in
theorem reach_neg (M mb N : Nat) (f : Int → Option Value) (c k n b : Int) (hb : Key b) (B : Nat) (sz v : Int) (hv : atL f k b = .pointer (some ⟨B, 0, none⟩)) (hc : sizeL c = v) (hv4 : v = 1 ∨ v = 2 ∨ v = 4 ∨ v = 8) (h1 : wrap64 n < 0) (w : World) (h : Mm w M mb N f) (hs : w.cell? ⟨B, 0, none⟩ = some (.int .i64 sz)) :
    Calls Try.prog 33 #[.pointer (some ⟨M, 0, none⟩), .int .i64 c, .agg #[.int .i64 k, .int .u64 n, .int .i64 b]] w fun e w' => e = .returned (.tuple #[.pointer none, .int .i64 0]) ∧ Fresh w w' := by
  rcases hv4 with rfl | rfl | rfl | rfl
  all_goals
    have o5 := Own.new' w k n b
    have H := Lib.hid (h.later ((Fresh.refl w).alloc #[.int .i64 k, .int .u64 n, .int .i64 b] 32))
    have HV := Lib.hid hv
    have HC := Lib.hid hc
    have HS : Hid (AtC (w.alloc (.cells #[.int .i64 k, .int .u64 n, .int .i64 b] 32)) ⟨B, 0, none⟩ (.int .i64 sz)) := Lib.hid (AtC.mk (((Fresh.refl w).alloc #[.int .i64 k, .int .u64 n, .int .i64 b] 32).cellOf (cell_lt hs) hs))
    clear h hv hc hs
    go_enter Try.func33, Try.ntmps33
    go_wp2_with fail
    go_region_held3 (fun w' => w'.cell? ⟨w.heap.size, 0, none⟩ = some (.int .i64 k) ∧ w'.cell? ⟨w.heap.size, 1, none⟩ = some (.int .u64 n) ∧ w'.cell? ⟨w.heap.size, 2, none⟩ = some (.int .i64 b) ∧ w'.cell? ⟨B, 0, none⟩ = some (.int .i64 sz)) (exact own_cells2 (o5.later (by (repeat' first | with_reducible exact Fresh.refl _ | with_reducible assumption | with_reducible refine Fresh.alloc ?_ _ _ | with_reducible refine Fresh.drew ?_ | with_reducible refine Fresh.setCell ?_ ?_ _ | with_reducible refine Fresh.trans ?_ (by assumption) | (simp; done) | (simp; omega)))) (HS.out.trans (by (repeat' first | with_reducible exact Fresh.refl _ | with_reducible assumption | with_reducible refine Fresh.alloc ?_ _ _ | with_reducible refine Fresh.drew ?_ | with_reducible refine Fresh.setCell ?_ ?_ _ | with_reducible refine Fresh.trans ?_ (by assumption) | (simp; done) | (simp; omega)))))
      (first | (go_at_call 61; refine (addressed_lit M mb N f _ _ _ hb _ HV.out _ (H.out.later (by (repeat' first | with_reducible exact Fresh.refl _ | with_reducible assumption | with_reducible refine Fresh.alloc ?_ _ _ | with_reducible refine Fresh.drew ?_ | with_reducible refine Fresh.setCell ?_ ?_ _ | with_reducible refine Fresh.trans ?_ (by assumption) | (simp; done) | (simp; omega))))).mono ?_; rintro e w1 ⟨rfl, h1⟩; have o5 := o5.later (by (repeat' first | with_reducible exact Fresh.refl _ | with_reducible assumption | with_reducible refine Fresh.alloc ?_ _ _ | with_reducible refine Fresh.drew ?_ | with_reducible refine Fresh.setCell ?_ ?_ _ | with_reducible refine Fresh.trans ?_ (by assumption) | (simp; done) | (simp; omega)) : Fresh _ w1)) | (go_at_call 26; refine (size_lit _ _ HC.out _).mono ?_; rintro e w' ⟨rfl, rfl⟩))
    all_goals (try go_wp2)
    all_goals go_light
    all_goals go_returns
    all_goals exact ⟨rfl, by (repeat' first | with_reducible exact Fresh.refl _ | with_reducible assumption | with_reducible refine Fresh.alloc ?_ _ _ | with_reducible refine Fresh.drew ?_ | with_reducible refine Fresh.setCell ?_ ?_ _ | with_reducible refine Fresh.trans ?_ (by assumption) | (simp; done) | (simp; omega))⟩
set_option maxHeartbeats 2000000 in
theorem reach_odd (M mb N : Nat) (f : Int → Option Value) (c k n b : Int) (hb : Key b) (B : Nat) (sz v : Int) (hv : atL f k b = .pointer (some ⟨B, 0, none⟩)) (hc : sizeL c = v) (hv4 : v = 2 ∨ v = 4 ∨ v = 8) (h0 : 0 ≤ wrap64 n) (h1 : (wrap64 n % v != 0) = true) (w : World) (h : Mm w M mb N f) (hs : w.cell? ⟨B, 0, none⟩ = some (.int .i64 sz)) :
    Calls Try.prog 33 #[.pointer (some ⟨M, 0, none⟩), .int .i64 c, .agg #[.int .i64 k, .int .u64 n, .int .i64 b]] w fun e w' => e = .returned (.tuple #[.pointer none, .int .i64 0]) ∧ Fresh w w' := by
  rcases hv4 with rfl | rfl | rfl
  all_goals
    have o5 := Own.new' w k n b
    have H := Lib.hid (h.later ((Fresh.refl w).alloc #[.int .i64 k, .int .u64 n, .int .i64 b] 32))
    have HV := Lib.hid hv
    have HC := Lib.hid hc
    have HS : Hid (AtC (w.alloc (.cells #[.int .i64 k, .int .u64 n, .int .i64 b] 32)) ⟨B, 0, none⟩ (.int .i64 sz)) := Lib.hid (AtC.mk (((Fresh.refl w).alloc #[.int .i64 k, .int .u64 n, .int .i64 b] 32).cellOf (cell_lt hs) hs))
    clear h hv hc hs
    go_enter Try.func33, Try.ntmps33
    go_wp2_with fail
    go_region_held3 (fun w' => w'.cell? ⟨w.heap.size, 0, none⟩ = some (.int .i64 k) ∧ w'.cell? ⟨w.heap.size, 1, none⟩ = some (.int .u64 n) ∧ w'.cell? ⟨w.heap.size, 2, none⟩ = some (.int .i64 b) ∧ w'.cell? ⟨B, 0, none⟩ = some (.int .i64 sz)) (exact own_cells2 (o5.later (by (repeat' first | with_reducible exact Fresh.refl _ | with_reducible assumption | with_reducible refine Fresh.alloc ?_ _ _ | with_reducible refine Fresh.drew ?_ | with_reducible refine Fresh.setCell ?_ ?_ _ | with_reducible refine Fresh.trans ?_ (by assumption) | (simp; done) | (simp; omega)))) (HS.out.trans (by (repeat' first | with_reducible exact Fresh.refl _ | with_reducible assumption | with_reducible refine Fresh.alloc ?_ _ _ | with_reducible refine Fresh.drew ?_ | with_reducible refine Fresh.setCell ?_ ?_ _ | with_reducible refine Fresh.trans ?_ (by assumption) | (simp; done) | (simp; omega)))))
      (first | (go_at_call 61; refine (addressed_lit M mb N f _ _ _ hb _ HV.out _ (H.out.later (by (repeat' first | with_reducible exact Fresh.refl _ | with_reducible assumption | with_reducible refine Fresh.alloc ?_ _ _ | with_reducible refine Fresh.drew ?_ | with_reducible refine Fresh.setCell ?_ ?_ _ | with_reducible refine Fresh.trans ?_ (by assumption) | (simp; done) | (simp; omega))))).mono ?_; rintro e w1 ⟨rfl, h1⟩; have o5 := o5.later (by (repeat' first | with_reducible exact Fresh.refl _ | with_reducible assumption | with_reducible refine Fresh.alloc ?_ _ _ | with_reducible refine Fresh.drew ?_ | with_reducible refine Fresh.setCell ?_ ?_ _ | with_reducible refine Fresh.trans ?_ (by assumption) | (simp; done) | (simp; omega)) : Fresh _ w1)) | (go_at_call 26; refine (size_lit _ _ HC.out _).mono ?_; rintro e w' ⟨rfl, rfl⟩))
    all_goals (try go_wp2)
    all_goals go_light
    all_goals go_returns
    all_goals exact ⟨rfl, by (repeat' first | with_reducible exact Fresh.refl _ | with_reducible assumption | with_reducible refine Fresh.alloc ?_ _ _ | with_reducible refine Fresh.drew ?_ | with_reducible refine Fresh.setCell ?_ ?_ _ | with_reducible refine Fresh.trans ?_ (by assumption) | (simp; done) | (simp; omega))⟩
set_option maxHeartbeats 2000000 in
theorem reach_far (M mb N : Nat) (f : Int → Option Value) (c k n b : Int) (hb : Key b) (B : Nat) (sz v : Int) (hv : atL f k b = .pointer (some ⟨B, 0, none⟩)) (hc : sizeL c = v) (hv4 : v = 1 ∨ v = 2 ∨ v = 4 ∨ v = 8) (h0 : 0 ≤ wrap64 n) (h1 : (wrap64 n % v != 0) = false) (hz0 : 0 ≤ sz) (hz : sz ≤ 16777216) (h2 : sz - v < wrap64 n) (w : World) (h : Mm w M mb N f) (hs : w.cell? ⟨B, 0, none⟩ = some (.int .i64 sz)) :
    Calls Try.prog 33 #[.pointer (some ⟨M, 0, none⟩), .int .i64 c, .agg #[.int .i64 k, .int .u64 n, .int .i64 b]] w fun e w' => e = .returned (.tuple #[.pointer none, .int .i64 0]) ∧ Fresh w w' := by
  rcases hv4 with rfl | rfl | rfl | rfl
  all_goals
    have o5 := Own.new' w k n b
    have H := Lib.hid (h.later ((Fresh.refl w).alloc #[.int .i64 k, .int .u64 n, .int .i64 b] 32))
    have HV := Lib.hid hv
    have HC := Lib.hid hc
    have HS : Hid (AtC (w.alloc (.cells #[.int .i64 k, .int .u64 n, .int .i64 b] 32)) ⟨B, 0, none⟩ (.int .i64 sz)) := Lib.hid (AtC.mk (((Fresh.refl w).alloc #[.int .i64 k, .int .u64 n, .int .i64 b] 32).cellOf (cell_lt hs) hs))
    clear h hv hc hs
    go_enter Try.func33, Try.ntmps33
    go_wp2_with fail
    go_region_held3 (fun w' => w'.cell? ⟨w.heap.size, 0, none⟩ = some (.int .i64 k) ∧ w'.cell? ⟨w.heap.size, 1, none⟩ = some (.int .u64 n) ∧ w'.cell? ⟨w.heap.size, 2, none⟩ = some (.int .i64 b) ∧ w'.cell? ⟨B, 0, none⟩ = some (.int .i64 sz)) (exact own_cells2 (o5.later (by (repeat' first | with_reducible exact Fresh.refl _ | with_reducible assumption | with_reducible refine Fresh.alloc ?_ _ _ | with_reducible refine Fresh.drew ?_ | with_reducible refine Fresh.setCell ?_ ?_ _ | with_reducible refine Fresh.trans ?_ (by assumption) | (simp; done) | (simp; omega)))) (HS.out.trans (by (repeat' first | with_reducible exact Fresh.refl _ | with_reducible assumption | with_reducible refine Fresh.alloc ?_ _ _ | with_reducible refine Fresh.drew ?_ | with_reducible refine Fresh.setCell ?_ ?_ _ | with_reducible refine Fresh.trans ?_ (by assumption) | (simp; done) | (simp; omega)))))
      (first | (go_at_call 61; refine (addressed_lit M mb N f _ _ _ hb _ HV.out _ (H.out.later (by (repeat' first | with_reducible exact Fresh.refl _ | with_reducible assumption | with_reducible refine Fresh.alloc ?_ _ _ | with_reducible refine Fresh.drew ?_ | with_reducible refine Fresh.setCell ?_ ?_ _ | with_reducible refine Fresh.trans ?_ (by assumption) | (simp; done) | (simp; omega))))).mono ?_; rintro e w1 ⟨rfl, h1⟩; have o5 := o5.later (by (repeat' first | with_reducible exact Fresh.refl _ | with_reducible assumption | with_reducible refine Fresh.alloc ?_ _ _ | with_reducible refine Fresh.drew ?_ | with_reducible refine Fresh.setCell ?_ ?_ _ | with_reducible refine Fresh.trans ?_ (by assumption) | (simp; done) | (simp; omega)) : Fresh _ w1)) | (go_at_call 26; refine (size_lit _ _ HC.out _).mono ?_; rintro e w' ⟨rfl, rfl⟩))
    all_goals (try go_wp2)
    all_goals go_light
    all_goals go_returns
    all_goals exact ⟨rfl, by (repeat' first | with_reducible exact Fresh.refl _ | with_reducible assumption | with_reducible refine Fresh.alloc ?_ _ _ | with_reducible refine Fresh.drew ?_ | with_reducible refine Fresh.setCell ?_ ?_ _ | with_reducible refine Fresh.trans ?_ (by assumption) | (simp; done) | (simp; omega))⟩
set_option maxHeartbeats 2000000 in
theorem reach_ok (M mb N : Nat) (f : Int → Option Value) (c k n b : Int) (hb : Key b) (B : Nat) (sz v : Int) (hv : atL f k b = .pointer (some ⟨B, 0, none⟩)) (hc : sizeL c = v) (hv4 : v = 1 ∨ v = 2 ∨ v = 4 ∨ v = 8) (h0 : 0 ≤ wrap64 n) (h1 : (wrap64 n % v != 0) = false) (hz0 : 0 ≤ sz) (hz : sz ≤ 16777216) (h2 : wrap64 n ≤ sz - v) (w : World) (h : Mm w M mb N f) (hs : w.cell? ⟨B, 0, none⟩ = some (.int .i64 sz)) :
    Calls Try.prog 33 #[.pointer (some ⟨M, 0, none⟩), .int .i64 c, .agg #[.int .i64 k, .int .u64 n, .int .i64 b]] w fun e w' => e = .returned (.tuple #[.pointer (some ⟨B, 0, none⟩), .int .i64 (wrap64 n)]) ∧ Fresh w w' := by
  rcases hv4 with rfl | rfl | rfl | rfl
  all_goals
    have o5 := Own.new' w k n b
    have H := Lib.hid (h.later ((Fresh.refl w).alloc #[.int .i64 k, .int .u64 n, .int .i64 b] 32))
    have HV := Lib.hid hv
    have HC := Lib.hid hc
    have HS : Hid (AtC (w.alloc (.cells #[.int .i64 k, .int .u64 n, .int .i64 b] 32)) ⟨B, 0, none⟩ (.int .i64 sz)) := Lib.hid (AtC.mk (((Fresh.refl w).alloc #[.int .i64 k, .int .u64 n, .int .i64 b] 32).cellOf (cell_lt hs) hs))
    clear h hv hc hs
    go_enter Try.func33, Try.ntmps33
    go_wp2_with fail
    go_region_held3 (fun w' => w'.cell? ⟨w.heap.size, 0, none⟩ = some (.int .i64 k) ∧ w'.cell? ⟨w.heap.size, 1, none⟩ = some (.int .u64 n) ∧ w'.cell? ⟨w.heap.size, 2, none⟩ = some (.int .i64 b) ∧ w'.cell? ⟨B, 0, none⟩ = some (.int .i64 sz)) (exact own_cells2 (o5.later (by (repeat' first | with_reducible exact Fresh.refl _ | with_reducible assumption | with_reducible refine Fresh.alloc ?_ _ _ | with_reducible refine Fresh.drew ?_ | with_reducible refine Fresh.setCell ?_ ?_ _ | with_reducible refine Fresh.trans ?_ (by assumption) | (simp; done) | (simp; omega)))) (HS.out.trans (by (repeat' first | with_reducible exact Fresh.refl _ | with_reducible assumption | with_reducible refine Fresh.alloc ?_ _ _ | with_reducible refine Fresh.drew ?_ | with_reducible refine Fresh.setCell ?_ ?_ _ | with_reducible refine Fresh.trans ?_ (by assumption) | (simp; done) | (simp; omega)))))
      (first | (go_at_call 61; refine (addressed_lit M mb N f _ _ _ hb _ HV.out _ (H.out.later (by (repeat' first | with_reducible exact Fresh.refl _ | with_reducible assumption | with_reducible refine Fresh.alloc ?_ _ _ | with_reducible refine Fresh.drew ?_ | with_reducible refine Fresh.setCell ?_ ?_ _ | with_reducible refine Fresh.trans ?_ (by assumption) | (simp; done) | (simp; omega))))).mono ?_; rintro e w1 ⟨rfl, h1⟩; have o5 := o5.later (by (repeat' first | with_reducible exact Fresh.refl _ | with_reducible assumption | with_reducible refine Fresh.alloc ?_ _ _ | with_reducible refine Fresh.drew ?_ | with_reducible refine Fresh.setCell ?_ ?_ _ | with_reducible refine Fresh.trans ?_ (by assumption) | (simp; done) | (simp; omega)) : Fresh _ w1)) | (go_at_call 26; refine (size_lit _ _ HC.out _).mono ?_; rintro e w' ⟨rfl, rfl⟩))
    all_goals (try go_wp2)
    all_goals go_light
    all_goals go_returns
    all_goals exact ⟨rfl, by (repeat' first | with_reducible exact Fresh.refl _ | with_reducible assumption | with_reducible refine Fresh.alloc ?_ _ _ | with_reducible refine Fresh.drew ?_ | with_reducible refine Fresh.setCell ?_ ?_ _ | with_reducible refine Fresh.trans ?_ (by assumption) | (simp; done) | (simp; omega))⟩
end Go.Proofs.Ytjbflmpnmobngaa
