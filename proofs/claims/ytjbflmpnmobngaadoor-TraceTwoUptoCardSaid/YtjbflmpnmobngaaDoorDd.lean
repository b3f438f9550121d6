/- Outcomes: the same, allowed. -/
import Derived.Test.YtjbflmpnmobngaaDoorDc
namespace Go.Proofs.YtjbflmpnmobngaaDoor
set_option linter.unusedSimpArgs false
set_option linter.unusedVariables false
open Go.RowKit

/-- A run's outcome: where its events lie and what they are, its status, its code. -/
structure Oc where
  p : Option Addr
  n : Nat
  cap : Nat
  f : Nat → Ev
  st : Int
  code : Int
  steps : Int
def Oc.okAt (w : World) (o : Oc) : Prop := EvsAt w o.p o.n o.f ∧ o.n ≤ o.cap ∧ o.cap ≤ maxLen
theorem Oc.okAt.later {w w' : World} {o : Oc} (h : o.okAt w) (hf : Fresh w w') : o.okAt w' := ⟨h.1.later hf, h.2⟩
def begO (a b : Oc) : Bool := begE a.n b.n a.f b.f
def sameO (a b : Oc) : Bool := a.st == b.st && (a.code == b.code && eqE a.n b.n a.f b.f)
theorem begins_lit (a b : Oc) (t : Bool) (h : begO a b = t) (w : World) (ha : a.okAt w) (hb : b.okAt w) :
    Calls Tryd.prog 13 #[.slice a.p a.n a.cap, .slice b.p b.n b.cap] w fun e w' => e = .returned (.bool t) ∧ Fresh w w' := by
  subst h
  exact begins_any a.p b.p a.n b.n a.cap b.cap a.f b.f (Nat.le_trans ha.2.1 ha.2.2) (Nat.le_trans hb.2.1 hb.2.2) ha.2.1 hb.2.1 hb.2.2 w ha.1 hb.1
theorem sameO_any (a b : Oc) (w : World) (ha : a.okAt w) (hb : b.okAt w) :
    Calls Tryd.prog 15 #[.agg #[.slice a.p a.n a.cap, .int .i64 a.st, .int .i32 a.code, .int .i64 a.steps], .agg #[.slice b.p b.n b.cap, .int .i64 b.st, .int .i32 b.code, .int .i64 b.steps]] w fun e w' => e = .returned (.bool (sameO a b)) ∧ Fresh w w' := by
  have HA := Lib.hid ha
  have HB := Lib.hid hb
  clear ha hb
  cases he : eqE a.n b.n a.f b.f
  all_goals
    have HE := Lib.hid he
    clear he
    go_enter Tryd.func15, Tryd.ntmps15
    go_wp2_with (go_at_call 33; refine (eqEvents_lit a.p b.p a.n b.n a.cap b.cap a.f b.f _ HE.out (Nat.le_trans HA.out.2.1 HA.out.2.2) (Nat.le_trans HB.out.2.1 HB.out.2.2) HA.out.2.1 HB.out.2.1 _ (HA.out.1.later (by (repeat' first | with_reducible exact Fresh.refl _ | with_reducible assumption | with_reducible refine Fresh.alloc ?_ _ _ | with_reducible refine Fresh.drew ?_ | with_reducible refine Fresh.setCell ?_ ?_ _ | with_reducible refine Fresh.trans ?_ (by assumption) | (simp; done) | (simp; omega)))) (HB.out.1.later (by (repeat' first | with_reducible exact Fresh.refl _ | with_reducible assumption | with_reducible refine Fresh.alloc ?_ _ _ | with_reducible refine Fresh.drew ?_ | with_reducible refine Fresh.setCell ?_ ?_ _ | with_reducible refine Fresh.trans ?_ (by assumption) | (simp; done) | (simp; omega))))).mono ?_; rintro e w1 ⟨rfl, h1⟩)
    all_goals go_returns
    all_goals first | exact ⟨ret_bool (by simp [sameO, HE.out, *]), (by (repeat' first | with_reducible exact Fresh.refl _ | with_reducible assumption | with_reducible refine Fresh.alloc ?_ _ _ | with_reducible refine Fresh.drew ?_ | with_reducible refine Fresh.setCell ?_ ?_ _ | with_reducible refine Fresh.trans ?_ (by assumption) | (simp; done) | (simp; omega)))⟩ | exact ⟨ret_bool (by simp_all [sameO, HE.out]), (by (repeat' first | with_reducible exact Fresh.refl _ | with_reducible assumption | with_reducible refine Fresh.alloc ?_ _ _ | with_reducible refine Fresh.drew ?_ | with_reducible refine Fresh.setCell ?_ ?_ _ | with_reducible refine Fresh.trans ?_ (by assumption) | (simp; done) | (simp; omega)))⟩
theorem sameO_lit (a b : Oc) (t : Bool) (h : sameO a b = t) (w : World) (ha : a.okAt w) (hb : b.okAt w) :
    Calls Tryd.prog 15 #[.agg #[.slice a.p a.n a.cap, .int .i64 a.st, .int .i32 a.code, .int .i64 a.steps], .agg #[.slice b.p b.n b.cap, .int .i64 b.st, .int .i32 b.code, .int .i64 b.steps]] w fun e w' => e = .returned (.bool t) ∧ Fresh w w' := by
  subst h; exact sameO_any a b w ha hb
def isSt (n : Int) : Bool := n == 0 || n == 1 || n == 2 || n == 3
theorem isSt_any (n : Int) (w : World) : Calls Tryd.prog 35 #[.int .i64 n] w fun e w' => e = .returned (.bool (isSt n)) ∧ w = w' := by
  go_enter Tryd.func35, Tryd.ntmps35
  go_wp2
  all_goals go_returns
  all_goals exact ⟨ret_bool (by simp_all [isSt]), rfl⟩
def endsO (s t : Oc) : Bool := if t.st == 1 then sameO s t else if t.st == 0 || t.st == 3 then begO t s else false
def refO (s t : Oc) : Bool := if isSt t.st then (if s.st == 1 then endsO s t else if s.st == 0 || s.st == 2 then begO s t || begO t s else false) else false
theorem endsO_any (a b : Oc) (w : World) (ha : a.okAt w) (hb : b.okAt w) :
    Calls Tryd.prog 36 #[.agg #[.slice a.p a.n a.cap, .int .i64 a.st, .int .i32 a.code, .int .i64 a.steps], .agg #[.slice b.p b.n b.cap, .int .i64 b.st, .int .i32 b.code, .int .i64 b.steps]] w fun e w' => e = .returned (.bool (endsO a b)) ∧ Fresh w w' := by
  have HA := Lib.hid ha
  have HB := Lib.hid hb
  clear ha hb
  cases hs : sameO a b <;> cases hg : begO b a
  all_goals
    have HS := Lib.hid hs
    have HG := Lib.hid hg
    clear hs hg
    go_enter Tryd.func36, Tryd.ntmps36
    go_wp2_with (first | (go_at_call 15; refine (sameO_lit a b _ HS.out _ (HA.out.later (by (repeat' first | with_reducible exact Fresh.refl _ | with_reducible assumption | with_reducible refine Fresh.alloc ?_ _ _ | with_reducible refine Fresh.drew ?_ | with_reducible refine Fresh.setCell ?_ ?_ _ | with_reducible refine Fresh.trans ?_ (by assumption) | (simp; done) | (simp; omega)))) (HB.out.later (by (repeat' first | with_reducible exact Fresh.refl _ | with_reducible assumption | with_reducible refine Fresh.alloc ?_ _ _ | with_reducible refine Fresh.drew ?_ | with_reducible refine Fresh.setCell ?_ ?_ _ | with_reducible refine Fresh.trans ?_ (by assumption) | (simp; done) | (simp; omega))))).mono ?_; rintro e w1 ⟨rfl, h1⟩) | (go_at_call 13; refine (begins_lit b a _ HG.out _ (HB.out.later (by (repeat' first | with_reducible exact Fresh.refl _ | with_reducible assumption | with_reducible refine Fresh.alloc ?_ _ _ | with_reducible refine Fresh.drew ?_ | with_reducible refine Fresh.setCell ?_ ?_ _ | with_reducible refine Fresh.trans ?_ (by assumption) | (simp; done) | (simp; omega)))) (HA.out.later (by (repeat' first | with_reducible exact Fresh.refl _ | with_reducible assumption | with_reducible refine Fresh.alloc ?_ _ _ | with_reducible refine Fresh.drew ?_ | with_reducible refine Fresh.setCell ?_ ?_ _ | with_reducible refine Fresh.trans ?_ (by assumption) | (simp; done) | (simp; omega))))).mono ?_; rintro e w1 ⟨rfl, h1⟩))
    all_goals go_returns
    all_goals exact ⟨ret_bool (by simp_all [endsO, HS.out, HG.out]), (by (repeat' first | with_reducible exact Fresh.refl _ | with_reducible assumption | with_reducible refine Fresh.alloc ?_ _ _ | with_reducible refine Fresh.drew ?_ | with_reducible refine Fresh.setCell ?_ ?_ _ | with_reducible refine Fresh.trans ?_ (by assumption) | (simp; done) | (simp; omega)))⟩
theorem endsO_lit (a b : Oc) (t : Bool) (h : endsO a b = t) (w : World) (ha : a.okAt w) (hb : b.okAt w) :
    Calls Tryd.prog 36 #[.agg #[.slice a.p a.n a.cap, .int .i64 a.st, .int .i32 a.code, .int .i64 a.steps], .agg #[.slice b.p b.n b.cap, .int .i64 b.st, .int .i32 b.code, .int .i64 b.steps]] w fun e w' => e = .returned (.bool t) ∧ Fresh w w' := by
  subst h; exact endsO_any a b w ha hb
theorem isSt_lit (n : Int) (t : Bool) (h : isSt n = t) (w : World) : Calls Tryd.prog 35 #[.int .i64 n] w fun e w' => e = .returned (.bool t) ∧ w = w' := by
  subst h; exact isSt_any n w
set_option maxHeartbeats 2000000 in
theorem refO_any (a b : Oc) (w : World) (ha : a.okAt w) (hb : b.okAt w) :
    Calls Tryd.prog 17 #[.agg #[.slice a.p a.n a.cap, .int .i64 a.st, .int .i32 a.code, .int .i64 a.steps], .agg #[.slice b.p b.n b.cap, .int .i64 b.st, .int .i32 b.code, .int .i64 b.steps]] w fun e w' => e = .returned (.bool (refO a b)) ∧ Fresh w w' := by
  have HA := Lib.hid ha
  have HB := Lib.hid hb
  clear ha hb
  cases hi : isSt b.st
  · have HI := Lib.hid hi
    clear hi
    go_enter Tryd.func17, Tryd.ntmps17
    go_wp2_with (go_at_call 35; refine (isSt_lit _ _ HI.out _).mono ?_; rintro e w' ⟨rfl, rfl⟩)
    all_goals go_returns
    all_goals exact ⟨ret_bool (by simp [refO, HI.out]), (by (repeat' first | with_reducible exact Fresh.refl _ | with_reducible assumption | with_reducible refine Fresh.alloc ?_ _ _ | with_reducible refine Fresh.drew ?_ | with_reducible refine Fresh.setCell ?_ ?_ _ | with_reducible refine Fresh.trans ?_ (by assumption) | (simp; done) | (simp; omega)))⟩
  · have HI := Lib.hid hi
    clear hi
    go_enter Tryd.func17, Tryd.ntmps17
    go_wp2_with (go_at_call 35; refine (isSt_lit _ _ HI.out _).mono ?_; rintro e w' ⟨rfl, rfl⟩)
    · go_at_call 36; refine (endsO_any a b _ (HA.out.later (by (repeat' first | with_reducible exact Fresh.refl _ | with_reducible assumption | with_reducible refine Fresh.alloc ?_ _ _ | with_reducible refine Fresh.drew ?_ | with_reducible refine Fresh.setCell ?_ ?_ _ | with_reducible refine Fresh.trans ?_ (by assumption) | (simp; done) | (simp; omega)))) (HB.out.later (by (repeat' first | with_reducible exact Fresh.refl _ | with_reducible assumption | with_reducible refine Fresh.alloc ?_ _ _ | with_reducible refine Fresh.drew ?_ | with_reducible refine Fresh.setCell ?_ ?_ _ | with_reducible refine Fresh.trans ?_ (by assumption) | (simp; done) | (simp; omega))))).mono ?_; rintro e w1 ⟨rfl, h1⟩
      go_wp2_with fail
      go_returns
      exact ⟨ret_bool (by simp_all [refO, HI.out]), (by (repeat' first | with_reducible exact Fresh.refl _ | with_reducible assumption | with_reducible refine Fresh.alloc ?_ _ _ | with_reducible refine Fresh.drew ?_ | with_reducible refine Fresh.setCell ?_ ?_ _ | with_reducible refine Fresh.trans ?_ (by assumption) | (simp; done) | (simp; omega)))⟩
    iterate 2
      · cases h1 : begO a b
        · have H1 := Lib.hid h1
          clear h1
          go_at_call 13; refine (begins_lit a b _ H1.out _ (HA.out.later (by (repeat' first | with_reducible exact Fresh.refl _ | with_reducible assumption | with_reducible refine Fresh.alloc ?_ _ _ | with_reducible refine Fresh.drew ?_ | with_reducible refine Fresh.setCell ?_ ?_ _ | with_reducible refine Fresh.trans ?_ (by assumption) | (simp; done) | (simp; omega)))) (HB.out.later (by (repeat' first | with_reducible exact Fresh.refl _ | with_reducible assumption | with_reducible refine Fresh.alloc ?_ _ _ | with_reducible refine Fresh.drew ?_ | with_reducible refine Fresh.setCell ?_ ?_ _ | with_reducible refine Fresh.trans ?_ (by assumption) | (simp; done) | (simp; omega))))).mono ?_; rintro e w1 ⟨rfl, h1⟩
          obtain ⟨c1, f1⟩ := h1.cells
          have z10 := h1.z (n := w.heap.size) (by first | assumption | (simp; done) | (simp; assumption) | (simp; omega))
          have z11 := h1.z (n := w.heap.size + 1) (by first | assumption | (simp; done) | (simp; assumption) | (simp; omega))
          go_wp2_with fail
          go_at_call 13; refine (begins_lit b a _ rfl _ (HB.out.later (by (repeat' first | with_reducible exact Fresh.refl _ | with_reducible assumption | with_reducible refine Fresh.alloc ?_ _ _ | with_reducible refine Fresh.drew ?_ | with_reducible refine Fresh.setCell ?_ ?_ _ | with_reducible refine Fresh.trans ?_ (by assumption) | (simp; done) | (simp; omega)))) (HA.out.later (by (repeat' first | with_reducible exact Fresh.refl _ | with_reducible assumption | with_reducible refine Fresh.alloc ?_ _ _ | with_reducible refine Fresh.drew ?_ | with_reducible refine Fresh.setCell ?_ ?_ _ | with_reducible refine Fresh.trans ?_ (by assumption) | (simp; done) | (simp; omega))))).mono ?_; rintro e w2 ⟨rfl, h2⟩
          clear c1 f1 z10 z11
          go_wp2_with fail
          go_returns
          exact ⟨ret_bool (by simp_all [refO, HI.out, H1.out]), (by (repeat' first | with_reducible exact Fresh.refl _ | with_reducible assumption | with_reducible refine Fresh.alloc ?_ _ _ | with_reducible refine Fresh.drew ?_ | with_reducible refine Fresh.setCell ?_ ?_ _ | with_reducible refine Fresh.trans ?_ (by assumption) | (simp; done) | (simp; omega)))⟩
        · have H1 := Lib.hid h1
          clear h1
          go_at_call 13; refine (begins_lit a b _ H1.out _ (HA.out.later (by (repeat' first | with_reducible exact Fresh.refl _ | with_reducible assumption | with_reducible refine Fresh.alloc ?_ _ _ | with_reducible refine Fresh.drew ?_ | with_reducible refine Fresh.setCell ?_ ?_ _ | with_reducible refine Fresh.trans ?_ (by assumption) | (simp; done) | (simp; omega)))) (HB.out.later (by (repeat' first | with_reducible exact Fresh.refl _ | with_reducible assumption | with_reducible refine Fresh.alloc ?_ _ _ | with_reducible refine Fresh.drew ?_ | with_reducible refine Fresh.setCell ?_ ?_ _ | with_reducible refine Fresh.trans ?_ (by assumption) | (simp; done) | (simp; omega))))).mono ?_; rintro e w1 ⟨rfl, h1⟩
          go_wp2_with fail
          go_returns
          exact ⟨ret_bool (by simp_all [refO, HI.out, H1.out]), (by (repeat' first | with_reducible exact Fresh.refl _ | with_reducible assumption | with_reducible refine Fresh.alloc ?_ _ _ | with_reducible refine Fresh.drew ?_ | with_reducible refine Fresh.setCell ?_ ?_ _ | with_reducible refine Fresh.trans ?_ (by assumption) | (simp; done) | (simp; omega)))⟩
    go_returns
    exact ⟨ret_bool (by simp_all [refO, HI.out]), (by (repeat' first | with_reducible exact Fresh.refl _ | with_reducible assumption | with_reducible refine Fresh.alloc ?_ _ _ | with_reducible refine Fresh.drew ?_ | with_reducible refine Fresh.setCell ?_ ?_ _ | with_reducible refine Fresh.trans ?_ (by assumption) | (simp; done) | (simp; omega)))⟩
end Go.Proofs.YtjbflmpnmobngaaDoor
