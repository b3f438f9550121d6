/- Memory's Eval2: what it answers. -/
import Derived.Test.YtjbflmpnmobngaaWa
import Derived.Test.YtjbflmpnmobngaaYc
namespace Go.Proofs.Ytjbflmpnmobngaa
set_option linter.unusedSimpArgs false
set_option linter.unusedVariables false
open Go.RowKit

/-- The boxes of the two operands, and of the answer. -/
structure EB (w wr : World) (k n b k' n' b' : Int) : Prop where
  fr : Fresh w wr
  x : Own wr w.heap.size k n b
  y : Own wr (w.heap.size + 1) k' n' b'
  z : Own wr (w.heap.size + 1 + 1) 0 0 0
theorem EB.later {w wr w' : World} {k n b k' n' b' : Int} (h : EB w wr k n b k' n' b') (f : Fresh wr w') : EB w w' k n b k' n' b' := ⟨h.fr.trans f, h.x.later f, h.y.later f, h.z.later f⟩
theorem EB.zf {w wr : World} {k n b k' n' b' : Int} (h : EB w wr k n b k' n' b') (o : Nat) : wr.frozen? ⟨w.heap.size + 1 + 1, o, none⟩ = false := by rw [h.fr.froz]; simp [World.frozen?, Array.getElem?_eq_none (show w.heap.size ≤ w.heap.size + 1 + 1 by omega)]
theorem EB.start (w : World) (k n b k' n' b' : Int) : EB w (((w.alloc (.cells #[.int .i64 k, .int .u64 n, .int .i64 b] 32)).alloc (.cells #[.int .i64 k', .int .u64 n', .int .i64 b'] 32)).alloc (.cells #[.int .i64 0, .int .u64 0, .int .i64 0] 32)) k n b k' n' b' := by
  refine ⟨(((Fresh.refl w).alloc _ _).alloc _ _).alloc _ _, ((Own.new' w k n b).later ((Fresh.refl _).alloc _ _)).later ((Fresh.refl _).alloc _ _), ?_, ?_⟩
  · have := (Own.new' (w.alloc (.cells #[.int .i64 k, .int .u64 n, .int .i64 b] 32)) k' n' b').later ((Fresh.refl _).alloc #[.int .i64 0, .int .u64 0, .int .i64 0] 32)
    simpa using this
  · have := Own.new' ((w.alloc (.cells #[.int .i64 k, .int .u64 n, .int .i64 b] 32)).alloc (.cells #[.int .i64 k', .int .u64 n', .int .i64 b'] 32)) 0 0 0
    simpa using this
/-- The answer: i1, i2: is the operand in its block? e1, e2: or at its end? -/
def evF (i1 i2 e1 e2 : Bool) (o k n b k' n' b' : Int) : (Int × Int × Int) × Bool :=
  if k = 4 ∧ k' = 4 then
    if (o = 46 ∨ o = 47) ∧ b ≠ b' ∧ i1 = true ∧ i2 = true then ((1, if o = 47 then 1 else 0, 0), true)
    else if (48 ≤ o ∧ o ≤ 55) ∧ ¬ (e1 = true ∧ e2 = true) then ((0, 0, 0), false)
    else two.eval2L o k n b k' n' b'
  else two.eval2L o k n b k' n' b'
theorem evF_kind {i1 i2 e1 e2 : Bool} {o k n b k' n' b' : Int} (h : ¬ (k = 4 ∧ k' = 4)) : evF i1 i2 e1 e2 o k n b k' n' b' = two.eval2L o k n b k' n' b' := by unfold evF; rw [if_neg h]
theorem evF_apart {i1 i2 e1 e2 : Bool} {o n b n' b' : Int} (ho : o = 46 ∨ o = 47) (hb : b ≠ b') (h1 : i1 = true) (h2 : i2 = true) : evF i1 i2 e1 e2 o 4 n b 4 n' b' = ((1, if o = 47 then 1 else 0, 0), true) := by unfold evF; rw [if_pos ⟨rfl, rfl⟩, if_pos ⟨ho, hb, h1, h2⟩]
theorem evF_no {i1 i2 e1 e2 : Bool} {o n b n' b' : Int} (ho : 48 ≤ o ∧ o ≤ 55) (h : ¬ (e1 = true ∧ e2 = true)) : evF i1 i2 e1 e2 o 4 n b 4 n' b' = ((0, 0, 0), false) := by unfold evF; rw [if_pos ⟨rfl, rfl⟩, if_neg (by omega), if_pos ⟨ho, h⟩]
theorem evF_else {i1 i2 e1 e2 : Bool} {o n b n' b' : Int} (h1 : ¬ ((o = 46 ∨ o = 47) ∧ b ≠ b' ∧ i1 = true ∧ i2 = true)) (h2 : ¬ ((48 ≤ o ∧ o ≤ 55) ∧ ¬ (e1 = true ∧ e2 = true))) : evF i1 i2 e1 e2 o 4 n b 4 n' b' = two.eval2L o 4 n b 4 n' b' := by unfold evF; rw [if_pos ⟨rfl, rfl⟩, if_neg h1, if_neg h2]
section
set_option maxRecDepth 100000
set_option maxHeartbeats 4000000
variable {M : Nat}
theorem p_k1 {w : World} (o k n b k' n' b' x y z : Int) (t : Bool) (E : Hid (EB w (((w.alloc (.cells #[.int .i64 k, .int .u64 n, .int .i64 b] 32)).alloc (.cells #[.int .i64 k', .int .u64 n', .int .i64 b'] 32)).alloc (.cells #[.int .i64 0, .int .u64 0, .int .i64 0] 32)) k n b k' n' b')) (EV : Hid (∀ X, Calls Try.prog 47 #[.int .i64 o, .agg #[.int .i64 k, .int .u64 n, .int .i64 b], .agg #[.int .i64 k', .int .u64 n', .int .i64 b']] X fun e w' => e = .returned (.tuple #[.agg #[.int .i64 x, .int .u64 y, .int .i64 z], .bool t]) ∧ Fresh X w')) (h : (k != 4) = true) :
    Calls Try.prog 19 #[.pointer (some ⟨M, 0, none⟩), .int .i64 o, .agg #[.int .i64 k, .int .u64 n, .int .i64 b], .agg #[.int .i64 k', .int .u64 n', .int .i64 b']] w fun e w' => e = .returned (.tuple #[.agg #[.int .i64 x, .int .u64 y, .int .i64 z], .bool t]) ∧ Fresh w w' := by
  go_enter Try.func19, Try.ntmps19
  obtain ⟨x0, x1, x2⟩ := own_cells E.out.x
  obtain ⟨y0, y1, y2⟩ := own_cells E.out.y
  go_wp2_with fail
  clear x0 x1 x2 y0 y1 y2
  go_at_call 47; refine (EV.out _).mono ?_; rintro e wq ⟨rfl, hq⟩; replace E := Lib.hid (E.out.later hq); clear hq
  obtain ⟨z0, z1, z2⟩ := own_cells E.out.z
  have qf := fun o => E.out.zf o
  go_wp2_with fail
  all_goals (refine bodyPost_ret (v := ?_) ?_ rfl ?_; rotate_left 1; focus (simp [results, Try.results19, go_sem, *]; (try rfl); done))
  all_goals exact ⟨rfl, (by (repeat' first | with_reducible exact E.out.fr | with_reducible refine Fresh.alloc ?_ _ _ | with_reducible refine Fresh.drew ?_ | with_reducible refine Fresh.setCell ?_ ?_ _ | (simp; done) | (simp; omega)))⟩
theorem p_k2 {w : World} (o k n b k' n' b' x y z : Int) (t : Bool) (E : Hid (EB w (((w.alloc (.cells #[.int .i64 k, .int .u64 n, .int .i64 b] 32)).alloc (.cells #[.int .i64 k', .int .u64 n', .int .i64 b'] 32)).alloc (.cells #[.int .i64 0, .int .u64 0, .int .i64 0] 32)) k n b k' n' b')) (EV : Hid (∀ X, Calls Try.prog 47 #[.int .i64 o, .agg #[.int .i64 k, .int .u64 n, .int .i64 b], .agg #[.int .i64 k', .int .u64 n', .int .i64 b']] X fun e w' => e = .returned (.tuple #[.agg #[.int .i64 x, .int .u64 y, .int .i64 z], .bool t]) ∧ Fresh X w')) (h : (k != 4) = false) (h' : (k' != 4) = true) :
    Calls Try.prog 19 #[.pointer (some ⟨M, 0, none⟩), .int .i64 o, .agg #[.int .i64 k, .int .u64 n, .int .i64 b], .agg #[.int .i64 k', .int .u64 n', .int .i64 b']] w fun e w' => e = .returned (.tuple #[.agg #[.int .i64 x, .int .u64 y, .int .i64 z], .bool t]) ∧ Fresh w w' := by
  go_enter Try.func19, Try.ntmps19
  obtain ⟨x0, x1, x2⟩ := own_cells E.out.x
  obtain ⟨y0, y1, y2⟩ := own_cells E.out.y
  go_wp2_with fail
  clear x0 x1 x2 y0 y1 y2
  go_at_call 47; refine (EV.out _).mono ?_; rintro e wq ⟨rfl, hq⟩; replace E := Lib.hid (E.out.later hq); clear hq
  obtain ⟨z0, z1, z2⟩ := own_cells E.out.z
  have qf := fun o => E.out.zf o
  go_wp2_with fail
  all_goals (refine bodyPost_ret (v := ?_) ?_ rfl ?_; rotate_left 1; focus (simp [results, Try.results19, go_sem, *]; (try rfl); done))
  all_goals exact ⟨rfl, (by (repeat' first | with_reducible exact E.out.fr | with_reducible refine Fresh.alloc ?_ _ _ | with_reducible refine Fresh.drew ?_ | with_reducible refine Fresh.setCell ?_ ?_ _ | (simp; done) | (simp; omega)))⟩
theorem p_a {w : World} (o k n b k' n' b' x y z : Int) (t : Bool) (E : Hid (EB w (((w.alloc (.cells #[.int .i64 k, .int .u64 n, .int .i64 b] 32)).alloc (.cells #[.int .i64 k', .int .u64 n', .int .i64 b'] 32)).alloc (.cells #[.int .i64 0, .int .u64 0, .int .i64 0] 32)) k n b k' n' b')) (h : (k != 4) = false) (h' : (k' != 4) = false) (EV : Hid (∀ X, Calls Try.prog 47 #[.int .i64 o, .agg #[.int .i64 k, .int .u64 n, .int .i64 b], .agg #[.int .i64 k', .int .u64 n', .int .i64 b']] X fun e w' => e = .returned (.tuple #[.agg #[.int .i64 x, .int .u64 y, .int .i64 z], .bool t]) ∧ Fresh X w'))(EQ : Hid (∀ X, Calls Try.prog 48 #[.int .i64 o] X fun e w' => e = .returned (.bool false) ∧ X = w'))(OD : Hid (∀ X, Calls Try.prog 50 #[.int .i64 o] X fun e w' => e = .returned (.bool false) ∧ X = w')) :
    Calls Try.prog 19 #[.pointer (some ⟨M, 0, none⟩), .int .i64 o, .agg #[.int .i64 k, .int .u64 n, .int .i64 b], .agg #[.int .i64 k', .int .u64 n', .int .i64 b']] w fun e w' => e = .returned (.tuple #[.agg #[.int .i64 x, .int .u64 y, .int .i64 z], .bool t]) ∧ Fresh w w' := by
  go_enter Try.func19, Try.ntmps19
  obtain ⟨x0, x1, x2⟩ := own_cells E.out.x
  obtain ⟨y0, y1, y2⟩ := own_cells E.out.y
  go_wp2_with fail
  clear x0 x1 x2 y0 y1 y2
  go_at_call 48; refine (EQ.out _).mono ?_; rintro e wq ⟨rfl, rfl⟩
  obtain ⟨x0, x1, x2⟩ := own_cells E.out.x
  obtain ⟨y0, y1, y2⟩ := own_cells E.out.y
  go_wp2_with fail
  clear x0 x1 x2 y0 y1 y2
  go_at_call 50; refine (OD.out _).mono ?_; rintro e wq ⟨rfl, rfl⟩
  obtain ⟨x0, x1, x2⟩ := own_cells E.out.x
  obtain ⟨y0, y1, y2⟩ := own_cells E.out.y
  go_wp2_with fail
  clear x0 x1 x2 y0 y1 y2
  go_at_call 47; refine (EV.out _).mono ?_; rintro e wq ⟨rfl, hq⟩; replace E := Lib.hid (E.out.later hq); clear hq
  obtain ⟨z0, z1, z2⟩ := own_cells E.out.z
  have qf := fun o => E.out.zf o
  go_wp2_with fail
  all_goals (refine bodyPost_ret (v := ?_) ?_ rfl ?_; rotate_left 1; focus (simp [results, Try.results19, go_sem, *]; (try rfl); done))
  all_goals exact ⟨rfl, (by (repeat' first | with_reducible exact E.out.fr | with_reducible refine Fresh.alloc ?_ _ _ | with_reducible refine Fresh.drew ?_ | with_reducible refine Fresh.setCell ?_ ?_ _ | (simp; done) | (simp; omega)))⟩
theorem p_b {w : World} (o k n b k' n' b' x y z : Int) (t : Bool) (E : Hid (EB w (((w.alloc (.cells #[.int .i64 k, .int .u64 n, .int .i64 b] 32)).alloc (.cells #[.int .i64 k', .int .u64 n', .int .i64 b'] 32)).alloc (.cells #[.int .i64 0, .int .u64 0, .int .i64 0] 32)) k n b k' n' b')) (h : (k != 4) = false) (h' : (k' != 4) = false) (EV : Hid (∀ X, Calls Try.prog 47 #[.int .i64 o, .agg #[.int .i64 k, .int .u64 n, .int .i64 b], .agg #[.int .i64 k', .int .u64 n', .int .i64 b']] X fun e w' => e = .returned (.tuple #[.agg #[.int .i64 x, .int .u64 y, .int .i64 z], .bool t]) ∧ Fresh X w'))(EQ : Hid (∀ X, Calls Try.prog 48 #[.int .i64 o] X fun e w' => e = .returned (.bool true) ∧ X = w'))(OD : Hid (∀ X, Calls Try.prog 50 #[.int .i64 o] X fun e w' => e = .returned (.bool false) ∧ X = w')) (hb : (b != b') = false) :
    Calls Try.prog 19 #[.pointer (some ⟨M, 0, none⟩), .int .i64 o, .agg #[.int .i64 k, .int .u64 n, .int .i64 b], .agg #[.int .i64 k', .int .u64 n', .int .i64 b']] w fun e w' => e = .returned (.tuple #[.agg #[.int .i64 x, .int .u64 y, .int .i64 z], .bool t]) ∧ Fresh w w' := by
  go_enter Try.func19, Try.ntmps19
  obtain ⟨x0, x1, x2⟩ := own_cells E.out.x
  obtain ⟨y0, y1, y2⟩ := own_cells E.out.y
  go_wp2_with fail
  clear x0 x1 x2 y0 y1 y2
  go_at_call 48; refine (EQ.out _).mono ?_; rintro e wq ⟨rfl, rfl⟩
  obtain ⟨x0, x1, x2⟩ := own_cells E.out.x
  obtain ⟨y0, y1, y2⟩ := own_cells E.out.y
  go_wp2_with fail
  clear x0 x1 x2 y0 y1 y2
  go_at_call 50; refine (OD.out _).mono ?_; rintro e wq ⟨rfl, rfl⟩
  obtain ⟨x0, x1, x2⟩ := own_cells E.out.x
  obtain ⟨y0, y1, y2⟩ := own_cells E.out.y
  go_wp2_with fail
  clear x0 x1 x2 y0 y1 y2
  go_at_call 47; refine (EV.out _).mono ?_; rintro e wq ⟨rfl, hq⟩; replace E := Lib.hid (E.out.later hq); clear hq
  obtain ⟨z0, z1, z2⟩ := own_cells E.out.z
  have qf := fun o => E.out.zf o
  go_wp2_with fail
  all_goals (refine bodyPost_ret (v := ?_) ?_ rfl ?_; rotate_left 1; focus (simp [results, Try.results19, go_sem, *]; (try rfl); done))
  all_goals exact ⟨rfl, (by (repeat' first | with_reducible exact E.out.fr | with_reducible refine Fresh.alloc ?_ _ _ | with_reducible refine Fresh.drew ?_ | with_reducible refine Fresh.setCell ?_ ?_ _ | (simp; done) | (simp; omega)))⟩
theorem p_c {w : World} (o k n b k' n' b' x y z : Int) (t : Bool) (E : Hid (EB w (((w.alloc (.cells #[.int .i64 k, .int .u64 n, .int .i64 b] 32)).alloc (.cells #[.int .i64 k', .int .u64 n', .int .i64 b'] 32)).alloc (.cells #[.int .i64 0, .int .u64 0, .int .i64 0] 32)) k n b k' n' b')) (h : (k != 4) = false) (h' : (k' != 4) = false) (EV : Hid (∀ X, Calls Try.prog 47 #[.int .i64 o, .agg #[.int .i64 k, .int .u64 n, .int .i64 b], .agg #[.int .i64 k', .int .u64 n', .int .i64 b']] X fun e w' => e = .returned (.tuple #[.agg #[.int .i64 x, .int .u64 y, .int .i64 z], .bool t]) ∧ Fresh X w'))(EQ : Hid (∀ X, Calls Try.prog 48 #[.int .i64 o] X fun e w' => e = .returned (.bool true) ∧ X = w'))(OD : Hid (∀ X, Calls Try.prog 50 #[.int .i64 o] X fun e w' => e = .returned (.bool false) ∧ X = w'))(I1 : Hid (∀ X, Fresh w X → Calls Try.prog 49 #[.pointer (some ⟨M, 0, none⟩), .agg #[.int .i64 k, .int .u64 n, .int .i64 b]] X fun e w' => e = .returned (.bool false) ∧ Fresh X w')) (hb : (b != b') = true) :
    Calls Try.prog 19 #[.pointer (some ⟨M, 0, none⟩), .int .i64 o, .agg #[.int .i64 k, .int .u64 n, .int .i64 b], .agg #[.int .i64 k', .int .u64 n', .int .i64 b']] w fun e w' => e = .returned (.tuple #[.agg #[.int .i64 x, .int .u64 y, .int .i64 z], .bool t]) ∧ Fresh w w' := by
  go_enter Try.func19, Try.ntmps19
  obtain ⟨x0, x1, x2⟩ := own_cells E.out.x
  obtain ⟨y0, y1, y2⟩ := own_cells E.out.y
  go_wp2_with fail
  clear x0 x1 x2 y0 y1 y2
  go_at_call 48; refine (EQ.out _).mono ?_; rintro e wq ⟨rfl, rfl⟩
  obtain ⟨x0, x1, x2⟩ := own_cells E.out.x
  obtain ⟨y0, y1, y2⟩ := own_cells E.out.y
  go_wp2_with fail
  clear x0 x1 x2 y0 y1 y2
  go_at_call 49; refine (I1.out _ E.out.fr).mono ?_; rintro e wq ⟨rfl, hq⟩; replace E := Lib.hid (E.out.later hq); clear hq
  obtain ⟨x0, x1, x2⟩ := own_cells E.out.x
  obtain ⟨y0, y1, y2⟩ := own_cells E.out.y
  go_wp2_with fail
  clear x0 x1 x2 y0 y1 y2
  go_at_call 50; refine (OD.out _).mono ?_; rintro e wq ⟨rfl, rfl⟩
  obtain ⟨x0, x1, x2⟩ := own_cells E.out.x
  obtain ⟨y0, y1, y2⟩ := own_cells E.out.y
  go_wp2_with fail
  clear x0 x1 x2 y0 y1 y2
  go_at_call 47; refine (EV.out _).mono ?_; rintro e wq ⟨rfl, hq⟩; replace E := Lib.hid (E.out.later hq); clear hq
  obtain ⟨z0, z1, z2⟩ := own_cells E.out.z
  have qf := fun o => E.out.zf o
  go_wp2_with fail
  all_goals (refine bodyPost_ret (v := ?_) ?_ rfl ?_; rotate_left 1; focus (simp [results, Try.results19, go_sem, *]; (try rfl); done))
  all_goals exact ⟨rfl, (by (repeat' first | with_reducible exact E.out.fr | with_reducible refine Fresh.alloc ?_ _ _ | with_reducible refine Fresh.drew ?_ | with_reducible refine Fresh.setCell ?_ ?_ _ | (simp; done) | (simp; omega)))⟩
theorem p_d {w : World} (o k n b k' n' b' x y z : Int) (t : Bool) (E : Hid (EB w (((w.alloc (.cells #[.int .i64 k, .int .u64 n, .int .i64 b] 32)).alloc (.cells #[.int .i64 k', .int .u64 n', .int .i64 b'] 32)).alloc (.cells #[.int .i64 0, .int .u64 0, .int .i64 0] 32)) k n b k' n' b')) (h : (k != 4) = false) (h' : (k' != 4) = false) (EV : Hid (∀ X, Calls Try.prog 47 #[.int .i64 o, .agg #[.int .i64 k, .int .u64 n, .int .i64 b], .agg #[.int .i64 k', .int .u64 n', .int .i64 b']] X fun e w' => e = .returned (.tuple #[.agg #[.int .i64 x, .int .u64 y, .int .i64 z], .bool t]) ∧ Fresh X w'))(EQ : Hid (∀ X, Calls Try.prog 48 #[.int .i64 o] X fun e w' => e = .returned (.bool true) ∧ X = w'))(OD : Hid (∀ X, Calls Try.prog 50 #[.int .i64 o] X fun e w' => e = .returned (.bool false) ∧ X = w'))(I1 : Hid (∀ X, Fresh w X → Calls Try.prog 49 #[.pointer (some ⟨M, 0, none⟩), .agg #[.int .i64 k, .int .u64 n, .int .i64 b]] X fun e w' => e = .returned (.bool true) ∧ Fresh X w'))(I2 : Hid (∀ X, Fresh w X → Calls Try.prog 49 #[.pointer (some ⟨M, 0, none⟩), .agg #[.int .i64 k', .int .u64 n', .int .i64 b']] X fun e w' => e = .returned (.bool false) ∧ Fresh X w')) (hb : (b != b') = true) :
    Calls Try.prog 19 #[.pointer (some ⟨M, 0, none⟩), .int .i64 o, .agg #[.int .i64 k, .int .u64 n, .int .i64 b], .agg #[.int .i64 k', .int .u64 n', .int .i64 b']] w fun e w' => e = .returned (.tuple #[.agg #[.int .i64 x, .int .u64 y, .int .i64 z], .bool t]) ∧ Fresh w w' := by
  go_enter Try.func19, Try.ntmps19
  obtain ⟨x0, x1, x2⟩ := own_cells E.out.x
  obtain ⟨y0, y1, y2⟩ := own_cells E.out.y
  go_wp2_with fail
  clear x0 x1 x2 y0 y1 y2
  go_at_call 48; refine (EQ.out _).mono ?_; rintro e wq ⟨rfl, rfl⟩
  obtain ⟨x0, x1, x2⟩ := own_cells E.out.x
  obtain ⟨y0, y1, y2⟩ := own_cells E.out.y
  go_wp2_with fail
  clear x0 x1 x2 y0 y1 y2
  go_at_call 49; refine (I1.out _ E.out.fr).mono ?_; rintro e wq ⟨rfl, hq⟩; replace E := Lib.hid (E.out.later hq); clear hq
  obtain ⟨x0, x1, x2⟩ := own_cells E.out.x
  obtain ⟨y0, y1, y2⟩ := own_cells E.out.y
  go_wp2_with fail
  clear x0 x1 x2 y0 y1 y2
  go_at_call 49; refine (I2.out _ E.out.fr).mono ?_; rintro e wq ⟨rfl, hq⟩; replace E := Lib.hid (E.out.later hq); clear hq
  obtain ⟨x0, x1, x2⟩ := own_cells E.out.x
  obtain ⟨y0, y1, y2⟩ := own_cells E.out.y
  go_wp2_with fail
  clear x0 x1 x2 y0 y1 y2
  go_at_call 50; refine (OD.out _).mono ?_; rintro e wq ⟨rfl, rfl⟩
  obtain ⟨x0, x1, x2⟩ := own_cells E.out.x
  obtain ⟨y0, y1, y2⟩ := own_cells E.out.y
  go_wp2_with fail
  clear x0 x1 x2 y0 y1 y2
  go_at_call 47; refine (EV.out _).mono ?_; rintro e wq ⟨rfl, hq⟩; replace E := Lib.hid (E.out.later hq); clear hq
  obtain ⟨z0, z1, z2⟩ := own_cells E.out.z
  have qf := fun o => E.out.zf o
  go_wp2_with fail
  all_goals (refine bodyPost_ret (v := ?_) ?_ rfl ?_; rotate_left 1; focus (simp [results, Try.results19, go_sem, *]; (try rfl); done))
  all_goals exact ⟨rfl, (by (repeat' first | with_reducible exact E.out.fr | with_reducible refine Fresh.alloc ?_ _ _ | with_reducible refine Fresh.drew ?_ | with_reducible refine Fresh.setCell ?_ ?_ _ | (simp; done) | (simp; omega)))⟩
theorem p_e0 {w : World} (o k n b k' n' b' x y z : Int) (t : Bool) (E : Hid (EB w (((w.alloc (.cells #[.int .i64 k, .int .u64 n, .int .i64 b] 32)).alloc (.cells #[.int .i64 k', .int .u64 n', .int .i64 b'] 32)).alloc (.cells #[.int .i64 0, .int .u64 0, .int .i64 0] 32)) k n b k' n' b')) (h : (k != 4) = false) (h' : (k' != 4) = false) (EQ : Hid (∀ X, Calls Try.prog 48 #[.int .i64 o] X fun e w' => e = .returned (.bool true) ∧ X = w'))(I1 : Hid (∀ X, Fresh w X → Calls Try.prog 49 #[.pointer (some ⟨M, 0, none⟩), .agg #[.int .i64 k, .int .u64 n, .int .i64 b]] X fun e w' => e = .returned (.bool true) ∧ Fresh X w'))(I2 : Hid (∀ X, Fresh w X → Calls Try.prog 49 #[.pointer (some ⟨M, 0, none⟩), .agg #[.int .i64 k', .int .u64 n', .int .i64 b']] X fun e w' => e = .returned (.bool true) ∧ Fresh X w')) (hb : (b != b') = true) (ho : (o == 46) = true) :
    Calls Try.prog 19 #[.pointer (some ⟨M, 0, none⟩), .int .i64 o, .agg #[.int .i64 k, .int .u64 n, .int .i64 b], .agg #[.int .i64 k', .int .u64 n', .int .i64 b']] w fun e w' => e = .returned (.tuple #[.agg #[.int .i64 1, .int .u64 0, .int .i64 0], .bool true]) ∧ Fresh w w' := by
  go_enter Try.func19, Try.ntmps19
  obtain ⟨x0, x1, x2⟩ := own_cells E.out.x
  obtain ⟨y0, y1, y2⟩ := own_cells E.out.y
  go_wp2_with fail
  clear x0 x1 x2 y0 y1 y2
  go_at_call 48; refine (EQ.out _).mono ?_; rintro e wq ⟨rfl, rfl⟩
  obtain ⟨x0, x1, x2⟩ := own_cells E.out.x
  obtain ⟨y0, y1, y2⟩ := own_cells E.out.y
  go_wp2_with fail
  clear x0 x1 x2 y0 y1 y2
  go_at_call 49; refine (I1.out _ E.out.fr).mono ?_; rintro e wq ⟨rfl, hq⟩; replace E := Lib.hid (E.out.later hq); clear hq
  obtain ⟨x0, x1, x2⟩ := own_cells E.out.x
  obtain ⟨y0, y1, y2⟩ := own_cells E.out.y
  go_wp2_with fail
  clear x0 x1 x2 y0 y1 y2
  go_at_call 49; refine (I2.out _ E.out.fr).mono ?_; rintro e wq ⟨rfl, hq⟩; replace E := Lib.hid (E.out.later hq); clear hq
  obtain ⟨x0, x1, x2⟩ := own_cells E.out.x
  obtain ⟨y0, y1, y2⟩ := own_cells E.out.y
  go_wp2_with fail
  clear x0 x1 x2 y0 y1 y2
  go_at_call 24; refine (int_f _ 0 (by decide) _).mono ?_; rintro e wq ⟨rfl, hq⟩; replace E := Lib.hid (E.out.later hq); clear hq
  obtain ⟨z0, z1, z2⟩ := own_cells E.out.z
  have qf := fun o => E.out.zf o
  go_wp2_with fail
  all_goals (refine bodyPost_ret (v := ?_) ?_ rfl ?_; rotate_left 1; focus (simp [results, Try.results19, go_sem, *]; (try rfl); done))
  all_goals exact ⟨rfl, (by (repeat' first | with_reducible exact E.out.fr | with_reducible refine Fresh.alloc ?_ _ _ | with_reducible refine Fresh.drew ?_ | with_reducible refine Fresh.setCell ?_ ?_ _ | (simp; done) | (simp; omega)))⟩
theorem p_e1 {w : World} (o k n b k' n' b' x y z : Int) (t : Bool) (E : Hid (EB w (((w.alloc (.cells #[.int .i64 k, .int .u64 n, .int .i64 b] 32)).alloc (.cells #[.int .i64 k', .int .u64 n', .int .i64 b'] 32)).alloc (.cells #[.int .i64 0, .int .u64 0, .int .i64 0] 32)) k n b k' n' b')) (h : (k != 4) = false) (h' : (k' != 4) = false) (EQ : Hid (∀ X, Calls Try.prog 48 #[.int .i64 o] X fun e w' => e = .returned (.bool true) ∧ X = w'))(I1 : Hid (∀ X, Fresh w X → Calls Try.prog 49 #[.pointer (some ⟨M, 0, none⟩), .agg #[.int .i64 k, .int .u64 n, .int .i64 b]] X fun e w' => e = .returned (.bool true) ∧ Fresh X w'))(I2 : Hid (∀ X, Fresh w X → Calls Try.prog 49 #[.pointer (some ⟨M, 0, none⟩), .agg #[.int .i64 k', .int .u64 n', .int .i64 b']] X fun e w' => e = .returned (.bool true) ∧ Fresh X w')) (hb : (b != b') = true) (ho : (o == 46) = false) :
    Calls Try.prog 19 #[.pointer (some ⟨M, 0, none⟩), .int .i64 o, .agg #[.int .i64 k, .int .u64 n, .int .i64 b], .agg #[.int .i64 k', .int .u64 n', .int .i64 b']] w fun e w' => e = .returned (.tuple #[.agg #[.int .i64 1, .int .u64 1, .int .i64 0], .bool true]) ∧ Fresh w w' := by
  go_enter Try.func19, Try.ntmps19
  obtain ⟨x0, x1, x2⟩ := own_cells E.out.x
  obtain ⟨y0, y1, y2⟩ := own_cells E.out.y
  go_wp2_with fail
  clear x0 x1 x2 y0 y1 y2
  go_at_call 48; refine (EQ.out _).mono ?_; rintro e wq ⟨rfl, rfl⟩
  obtain ⟨x0, x1, x2⟩ := own_cells E.out.x
  obtain ⟨y0, y1, y2⟩ := own_cells E.out.y
  go_wp2_with fail
  clear x0 x1 x2 y0 y1 y2
  go_at_call 49; refine (I1.out _ E.out.fr).mono ?_; rintro e wq ⟨rfl, hq⟩; replace E := Lib.hid (E.out.later hq); clear hq
  obtain ⟨x0, x1, x2⟩ := own_cells E.out.x
  obtain ⟨y0, y1, y2⟩ := own_cells E.out.y
  go_wp2_with fail
  clear x0 x1 x2 y0 y1 y2
  go_at_call 49; refine (I2.out _ E.out.fr).mono ?_; rintro e wq ⟨rfl, hq⟩; replace E := Lib.hid (E.out.later hq); clear hq
  obtain ⟨x0, x1, x2⟩ := own_cells E.out.x
  obtain ⟨y0, y1, y2⟩ := own_cells E.out.y
  go_wp2_with fail
  clear x0 x1 x2 y0 y1 y2
  go_at_call 24; refine (int_f _ 1 (by decide) _).mono ?_; rintro e wq ⟨rfl, hq⟩; replace E := Lib.hid (E.out.later hq); clear hq
  obtain ⟨z0, z1, z2⟩ := own_cells E.out.z
  have qf := fun o => E.out.zf o
  go_wp2_with fail
  all_goals (refine bodyPost_ret (v := ?_) ?_ rfl ?_; rotate_left 1; focus (simp [results, Try.results19, go_sem, *]; (try rfl); done))
  all_goals exact ⟨rfl, (by (repeat' first | with_reducible exact E.out.fr | with_reducible refine Fresh.alloc ?_ _ _ | with_reducible refine Fresh.drew ?_ | with_reducible refine Fresh.setCell ?_ ?_ _ | (simp; done) | (simp; omega)))⟩
theorem p_f {w : World} (o k n b k' n' b' x y z : Int) (t : Bool) (E : Hid (EB w (((w.alloc (.cells #[.int .i64 k, .int .u64 n, .int .i64 b] 32)).alloc (.cells #[.int .i64 k', .int .u64 n', .int .i64 b'] 32)).alloc (.cells #[.int .i64 0, .int .u64 0, .int .i64 0] 32)) k n b k' n' b')) (h : (k != 4) = false) (h' : (k' != 4) = false) (EQ : Hid (∀ X, Calls Try.prog 48 #[.int .i64 o] X fun e w' => e = .returned (.bool false) ∧ X = w'))(OD : Hid (∀ X, Calls Try.prog 50 #[.int .i64 o] X fun e w' => e = .returned (.bool true) ∧ X = w'))(E1 : Hid (∀ X, Fresh w X → Calls Try.prog 51 #[.pointer (some ⟨M, 0, none⟩), .agg #[.int .i64 k, .int .u64 n, .int .i64 b]] X fun e w' => e = .returned (.bool false) ∧ Fresh X w')) :
    Calls Try.prog 19 #[.pointer (some ⟨M, 0, none⟩), .int .i64 o, .agg #[.int .i64 k, .int .u64 n, .int .i64 b], .agg #[.int .i64 k', .int .u64 n', .int .i64 b']] w fun e w' => e = .returned (.tuple #[.agg #[.int .i64 0, .int .u64 0, .int .i64 0], .bool false]) ∧ Fresh w w' := by
  go_enter Try.func19, Try.ntmps19
  obtain ⟨x0, x1, x2⟩ := own_cells E.out.x
  obtain ⟨y0, y1, y2⟩ := own_cells E.out.y
  go_wp2_with fail
  clear x0 x1 x2 y0 y1 y2
  go_at_call 48; refine (EQ.out _).mono ?_; rintro e wq ⟨rfl, rfl⟩
  obtain ⟨x0, x1, x2⟩ := own_cells E.out.x
  obtain ⟨y0, y1, y2⟩ := own_cells E.out.y
  go_wp2_with fail
  clear x0 x1 x2 y0 y1 y2
  go_at_call 50; refine (OD.out _).mono ?_; rintro e wq ⟨rfl, rfl⟩
  obtain ⟨x0, x1, x2⟩ := own_cells E.out.x
  obtain ⟨y0, y1, y2⟩ := own_cells E.out.y
  go_wp2_with fail
  clear x0 x1 x2 y0 y1 y2
  go_at_call 51; refine (E1.out _ E.out.fr).mono ?_; rintro e wq ⟨rfl, hq⟩; replace E := Lib.hid (E.out.later hq); clear hq
  obtain ⟨z0, z1, z2⟩ := own_cells E.out.z
  have qf := fun o => E.out.zf o
  obtain ⟨x0, x1, x2⟩ := own_cells E.out.x
  obtain ⟨y0, y1, y2⟩ := own_cells E.out.y
  go_wp2_with fail
  all_goals (refine bodyPost_ret (v := ?_) ?_ rfl ?_; rotate_left 1; focus (simp [results, Try.results19, go_sem, *]; (try rfl); done))
  all_goals exact ⟨rfl, (by (repeat' first | with_reducible exact E.out.fr | with_reducible refine Fresh.alloc ?_ _ _ | with_reducible refine Fresh.drew ?_ | with_reducible refine Fresh.setCell ?_ ?_ _ | (simp; done) | (simp; omega)))⟩
theorem p_g {w : World} (o k n b k' n' b' x y z : Int) (t : Bool) (E : Hid (EB w (((w.alloc (.cells #[.int .i64 k, .int .u64 n, .int .i64 b] 32)).alloc (.cells #[.int .i64 k', .int .u64 n', .int .i64 b'] 32)).alloc (.cells #[.int .i64 0, .int .u64 0, .int .i64 0] 32)) k n b k' n' b')) (h : (k != 4) = false) (h' : (k' != 4) = false) (EQ : Hid (∀ X, Calls Try.prog 48 #[.int .i64 o] X fun e w' => e = .returned (.bool false) ∧ X = w'))(OD : Hid (∀ X, Calls Try.prog 50 #[.int .i64 o] X fun e w' => e = .returned (.bool true) ∧ X = w'))(E1 : Hid (∀ X, Fresh w X → Calls Try.prog 51 #[.pointer (some ⟨M, 0, none⟩), .agg #[.int .i64 k, .int .u64 n, .int .i64 b]] X fun e w' => e = .returned (.bool true) ∧ Fresh X w'))(E2 : Hid (∀ X, Fresh w X → Calls Try.prog 51 #[.pointer (some ⟨M, 0, none⟩), .agg #[.int .i64 k', .int .u64 n', .int .i64 b']] X fun e w' => e = .returned (.bool false) ∧ Fresh X w')) :
    Calls Try.prog 19 #[.pointer (some ⟨M, 0, none⟩), .int .i64 o, .agg #[.int .i64 k, .int .u64 n, .int .i64 b], .agg #[.int .i64 k', .int .u64 n', .int .i64 b']] w fun e w' => e = .returned (.tuple #[.agg #[.int .i64 0, .int .u64 0, .int .i64 0], .bool false]) ∧ Fresh w w' := by
  go_enter Try.func19, Try.ntmps19
  obtain ⟨x0, x1, x2⟩ := own_cells E.out.x
  obtain ⟨y0, y1, y2⟩ := own_cells E.out.y
  go_wp2_with fail
  clear x0 x1 x2 y0 y1 y2
  go_at_call 48; refine (EQ.out _).mono ?_; rintro e wq ⟨rfl, rfl⟩
  obtain ⟨x0, x1, x2⟩ := own_cells E.out.x
  obtain ⟨y0, y1, y2⟩ := own_cells E.out.y
  go_wp2_with fail
  clear x0 x1 x2 y0 y1 y2
  go_at_call 50; refine (OD.out _).mono ?_; rintro e wq ⟨rfl, rfl⟩
  obtain ⟨x0, x1, x2⟩ := own_cells E.out.x
  obtain ⟨y0, y1, y2⟩ := own_cells E.out.y
  go_wp2_with fail
  clear x0 x1 x2 y0 y1 y2
  go_at_call 51; refine (E1.out _ E.out.fr).mono ?_; rintro e wq ⟨rfl, hq⟩; replace E := Lib.hid (E.out.later hq); clear hq
  obtain ⟨x0, x1, x2⟩ := own_cells E.out.x
  obtain ⟨y0, y1, y2⟩ := own_cells E.out.y
  go_wp2_with fail
  clear x0 x1 x2 y0 y1 y2
  go_at_call 51; refine (E2.out _ E.out.fr).mono ?_; rintro e wq ⟨rfl, hq⟩; replace E := Lib.hid (E.out.later hq); clear hq
  obtain ⟨z0, z1, z2⟩ := own_cells E.out.z
  have qf := fun o => E.out.zf o
  obtain ⟨x0, x1, x2⟩ := own_cells E.out.x
  obtain ⟨y0, y1, y2⟩ := own_cells E.out.y
  go_wp2_with fail
  all_goals (refine bodyPost_ret (v := ?_) ?_ rfl ?_; rotate_left 1; focus (simp [results, Try.results19, go_sem, *]; (try rfl); done))
  all_goals exact ⟨rfl, (by (repeat' first | with_reducible exact E.out.fr | with_reducible refine Fresh.alloc ?_ _ _ | with_reducible refine Fresh.drew ?_ | with_reducible refine Fresh.setCell ?_ ?_ _ | (simp; done) | (simp; omega)))⟩
theorem p_h {w : World} (o k n b k' n' b' x y z : Int) (t : Bool) (E : Hid (EB w (((w.alloc (.cells #[.int .i64 k, .int .u64 n, .int .i64 b] 32)).alloc (.cells #[.int .i64 k', .int .u64 n', .int .i64 b'] 32)).alloc (.cells #[.int .i64 0, .int .u64 0, .int .i64 0] 32)) k n b k' n' b')) (h : (k != 4) = false) (h' : (k' != 4) = false) (EV : Hid (∀ X, Calls Try.prog 47 #[.int .i64 o, .agg #[.int .i64 k, .int .u64 n, .int .i64 b], .agg #[.int .i64 k', .int .u64 n', .int .i64 b']] X fun e w' => e = .returned (.tuple #[.agg #[.int .i64 x, .int .u64 y, .int .i64 z], .bool t]) ∧ Fresh X w'))(EQ : Hid (∀ X, Calls Try.prog 48 #[.int .i64 o] X fun e w' => e = .returned (.bool false) ∧ X = w'))(OD : Hid (∀ X, Calls Try.prog 50 #[.int .i64 o] X fun e w' => e = .returned (.bool true) ∧ X = w'))(E1 : Hid (∀ X, Fresh w X → Calls Try.prog 51 #[.pointer (some ⟨M, 0, none⟩), .agg #[.int .i64 k, .int .u64 n, .int .i64 b]] X fun e w' => e = .returned (.bool true) ∧ Fresh X w'))(E2 : Hid (∀ X, Fresh w X → Calls Try.prog 51 #[.pointer (some ⟨M, 0, none⟩), .agg #[.int .i64 k', .int .u64 n', .int .i64 b']] X fun e w' => e = .returned (.bool true) ∧ Fresh X w')) :
    Calls Try.prog 19 #[.pointer (some ⟨M, 0, none⟩), .int .i64 o, .agg #[.int .i64 k, .int .u64 n, .int .i64 b], .agg #[.int .i64 k', .int .u64 n', .int .i64 b']] w fun e w' => e = .returned (.tuple #[.agg #[.int .i64 x, .int .u64 y, .int .i64 z], .bool t]) ∧ Fresh w w' := by
  go_enter Try.func19, Try.ntmps19
  obtain ⟨x0, x1, x2⟩ := own_cells E.out.x
  obtain ⟨y0, y1, y2⟩ := own_cells E.out.y
  go_wp2_with fail
  clear x0 x1 x2 y0 y1 y2
  go_at_call 48; refine (EQ.out _).mono ?_; rintro e wq ⟨rfl, rfl⟩
  obtain ⟨x0, x1, x2⟩ := own_cells E.out.x
  obtain ⟨y0, y1, y2⟩ := own_cells E.out.y
  go_wp2_with fail
  clear x0 x1 x2 y0 y1 y2
  go_at_call 50; refine (OD.out _).mono ?_; rintro e wq ⟨rfl, rfl⟩
  obtain ⟨x0, x1, x2⟩ := own_cells E.out.x
  obtain ⟨y0, y1, y2⟩ := own_cells E.out.y
  go_wp2_with fail
  clear x0 x1 x2 y0 y1 y2
  go_at_call 51; refine (E1.out _ E.out.fr).mono ?_; rintro e wq ⟨rfl, hq⟩; replace E := Lib.hid (E.out.later hq); clear hq
  obtain ⟨x0, x1, x2⟩ := own_cells E.out.x
  obtain ⟨y0, y1, y2⟩ := own_cells E.out.y
  go_wp2_with fail
  clear x0 x1 x2 y0 y1 y2
  go_at_call 51; refine (E2.out _ E.out.fr).mono ?_; rintro e wq ⟨rfl, hq⟩; replace E := Lib.hid (E.out.later hq); clear hq
  obtain ⟨x0, x1, x2⟩ := own_cells E.out.x
  obtain ⟨y0, y1, y2⟩ := own_cells E.out.y
  go_wp2_with fail
  clear x0 x1 x2 y0 y1 y2
  go_at_call 47; refine (EV.out _).mono ?_; rintro e wq ⟨rfl, hq⟩; replace E := Lib.hid (E.out.later hq); clear hq
  obtain ⟨z0, z1, z2⟩ := own_cells E.out.z
  have qf := fun o => E.out.zf o
  go_wp2_with fail
  all_goals (refine bodyPost_ret (v := ?_) ?_ rfl ?_; rotate_left 1; focus (simp [results, Try.results19, go_sem, *]; (try rfl); done))
  all_goals exact ⟨rfl, (by (repeat' first | with_reducible exact E.out.fr | with_reducible refine Fresh.alloc ?_ _ _ | with_reducible refine Fresh.drew ?_ | with_reducible refine Fresh.setCell ?_ ?_ _ | (simp; done) | (simp; omega)))⟩
end
end Go.Proofs.Ytjbflmpnmobngaa
