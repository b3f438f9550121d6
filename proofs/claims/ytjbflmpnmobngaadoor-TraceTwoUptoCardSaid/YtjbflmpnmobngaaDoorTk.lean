/- The reference's Refines. -/
import Derived.Test.YtjbflmpnmobngaaDoorTj
namespace Go.Proofs.YtjbflmpnmobngaaDoor
set_option linter.unusedSimpArgs false
set_option linter.unusedVariables false
open Go.RowKit

/-- To refine, in letters. -/
def refB (s1 t1 : Int) (ce x1 x2 y : Bool) : Bool := if isSt t1 then (if s1 == 1 then (if t1 == 1 then ce && y else if t1 == 0 || t1 == 3 then x2 else false) else if s1 == 0 || s1 == 2 then x1 || x2 else false) else false
theorem refO_refB (s t : Oc) : refO s t = refB s.st t.st (s.code == t.code) (begO s t) (begO t s) (eqE s.n t.n s.f t.f) := by
  unfold refO refB endsO sameO
  by_cases h1 : s.st = 1 <;> by_cases h2 : t.st = 1 <;> simp [h1, h2]
set_option maxRecDepth 100000 in
set_option maxHeartbeats 8000000 in
theorem refR_let (p p' : Option Addr) (n n' cap cap' : Nat) (st st' code code' steps steps' : Int) (x1 x2 y : Bool) (w : World)
    (C1 : Hid (∀ X, Fresh w X → Calls Tryd.prog 14 #[.slice p n cap, .slice p' n' cap'] X fun e w' => e = .returned (.bool x1) ∧ Fresh X w'))
    (C2 : Hid (∀ X, Fresh w X → Calls Tryd.prog 14 #[.slice p' n' cap', .slice p n cap] X fun e w' => e = .returned (.bool x2) ∧ Fresh X w'))
    (C3 : Hid (∀ X, Fresh w X → Calls Tryd.prog 34 #[.slice p n cap, .slice p' n' cap'] X fun e w' => e = .returned (.bool y) ∧ Fresh X w')) :
    Calls Tryd.prog 18 #[.agg #[.slice p n cap, .int .i64 st, .int .i32 code, .int .i64 steps], .agg #[.slice p' n' cap', .int .i64 st', .int .i32 code', .int .i64 steps']] w fun e w' => e = .returned (.bool (refB st st' (code == code') x1 x2 y)) ∧ Fresh w w' := by
  by_cases h0 : st' < 0
  · have e0 : refB st st' (code == code') x1 x2 y = false := by
      have : isSt st' = false := by simp [isSt]; omega
      simp [refB, this]
    rw [e0]
    go_enter Tryd.func18, Tryd.ntmps18
    go_wp2_with fail
    go_returns
    exact ⟨rfl, (by (repeat' first | with_reducible exact Fresh.refl _ | with_reducible assumption | with_reducible refine Fresh.alloc ?_ _ _ | with_reducible refine Fresh.drew ?_ | with_reducible refine Fresh.drewN ?_ _ | with_reducible refine Fresh.setCell ?_ ?_ _ | with_reducible refine Fresh.trans ?_ (by assumption) | (simp; done) | (simp; omega)))⟩
  by_cases h3 : 3 < st'
  · have e0 : refB st st' (code == code') x1 x2 y = false := by
      have : isSt st' = false := by simp [isSt]; omega
      simp [refB, this]
    rw [e0]
    go_enter Tryd.func18, Tryd.ntmps18
    go_wp2_with fail
    go_returns
    exact ⟨rfl, (by (repeat' first | with_reducible exact Fresh.refl _ | with_reducible assumption | with_reducible refine Fresh.alloc ?_ _ _ | with_reducible refine Fresh.drew ?_ | with_reducible refine Fresh.drewN ?_ _ | with_reducible refine Fresh.setCell ?_ ?_ _ | with_reducible refine Fresh.trans ?_ (by assumption) | (simp; done) | (simp; omega)))⟩
  have hs : st' = 0 ∨ st' = 1 ∨ st' = 2 ∨ st' = 3 := by omega
  clear h0 h3
  have ht : st = 1 ∨ st = 0 ∨ st = 2 ∨ (¬ st = 1 ∧ ¬ st = 0 ∧ ¬ st = 2) := by omega
  obtain ⟨ce, hce⟩ : ∃ ce, ce = (code == code') := ⟨_, rfl⟩
  have HC : Hid (ce = (code' == code)) := Lib.hid (by rw [hce]; exact Bool.beq_comm ..)
  rw [← hce]
  obtain ⟨R, hR⟩ : ∃ R, R = refB st st' ce x1 x2 y := ⟨_, rfl⟩
  rw [← hR]
  have HR := Lib.hid hR
  clear hR hce
  by_cases hcc : code' = code
  all_goals cases x1
  all_goals rcases hs with rfl | rfl | rfl | rfl
  all_goals rcases ht with rfl | rfl | rfl | ⟨q1, q2, q3⟩
  all_goals
    go_enter Tryd.func18, Tryd.ntmps18
    go_wp2_with fail
    go_at_call 14; refine (C1.out _ (by (repeat' first | with_reducible exact Fresh.refl _ | with_reducible assumption | with_reducible refine Fresh.alloc ?_ _ _ | with_reducible refine Fresh.drew ?_ | with_reducible refine Fresh.drewN ?_ _ | with_reducible refine Fresh.setCell ?_ ?_ _ | with_reducible refine Fresh.trans ?_ (by assumption) | (simp; done) | (simp; omega)))).mono ?_; rintro e w1 ⟨rfl, k1⟩
    have F1 : Fresh w w1 := (by (repeat' first | with_reducible exact Fresh.refl _ | with_reducible assumption | with_reducible refine Fresh.alloc ?_ _ _ | with_reducible refine Fresh.drew ?_ | with_reducible refine Fresh.drewN ?_ _ | with_reducible refine Fresh.setCell ?_ ?_ _ | with_reducible refine Fresh.trans ?_ (by assumption) | (simp; done) | (simp; omega)))
    have z1 := k1.z (n := w.heap.size) (by first | assumption | (simp; done) | (simp; assumption) | (simp; omega))
    have z1b := k1.z (n := w.heap.size + 1) (by first | assumption | (simp; done) | (simp; assumption) | (simp; omega))
    obtain ⟨cc1, ff1⟩ := k1.cells
    clear k1
    go_wp2_with fail
    try (go_at_call 14; refine (C2.out _ F1).mono ?_; rintro e w2 ⟨rfl, k2⟩; have F2 : Fresh w w2 := F1.trans k2; have z2 := k2.z z1; have z2b := k2.z z1b; obtain ⟨cc2, ff2⟩ := k2.cells; clear k2; go_wp2_with fail)
    all_goals try (go_at_call 14; refine (C2.out _ (by assumption)).mono ?_; rintro e w3 ⟨rfl, k3⟩; have F3 := Fresh.trans (by assumption) k3; go_wp2_with fail)
    all_goals try (go_at_call 34; refine (C3.out _ (by assumption)).mono ?_; rintro e w3 ⟨rfl, k3⟩; have F3 := Fresh.trans (by assumption) k3; go_wp2_with fail)
    all_goals go_returns
    all_goals exact ⟨ret_bool (by rw [HR.out, HC.out]; simp [refB, isSt, hcc, *]), by assumption⟩
theorem refOR_any (a b : Oc) (w : World) (ha : a.okAt w) (hb : b.okAt w) :
    Calls Tryd.prog 18 #[.agg #[.slice a.p a.n a.cap, .int .i64 a.st, .int .i32 a.code, .int .i64 a.steps], .agg #[.slice b.p b.n b.cap, .int .i64 b.st, .int .i32 b.code, .int .i64 b.steps]] w fun e w' => e = .returned (.bool (refO a b)) ∧ Fresh w w' := by
  rw [refO_refB]
  exact refR_let a.p b.p a.n b.n a.cap b.cap a.st b.st a.code b.code a.steps b.steps _ _ _ w
    (Lib.hid (fun X hX => beginsR_lit a b _ rfl X (ha.later hX) (hb.later hX))) (Lib.hid (fun X hX => beginsR_lit b a _ rfl X (hb.later hX) (ha.later hX))) (Lib.hid (fun X hX => sameTraceR_any a b X (ha.later hX) (hb.later hX)))
end Go.Proofs.YtjbflmpnmobngaaDoor
