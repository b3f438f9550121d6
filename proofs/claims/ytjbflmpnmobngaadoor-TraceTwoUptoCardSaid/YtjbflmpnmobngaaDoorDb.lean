/- Events in memory; when two are the same; which rows of them begin which. -/
import Derived.Test.YtjbflmpnmobngaaDoorDa
namespace Go.Proofs.YtjbflmpnmobngaaDoor
set_option linter.unusedSimpArgs false
set_option linter.unusedVariables false
open Go.RowKit

/-- An event: its name, where its arguments lie and what they are, its answer. -/
structure Ev where
  nm : ByteArray
  p : Option Addr
  n : Nat
  cap : Nat
  f : Nat → V3
  r : V3
def Ev.okAt (w : World) (e : Ev) : Prop := ValsAt w e.p e.n e.f ∧ e.n ≤ e.cap ∧ e.cap ≤ maxLen
theorem Ev.okAt.later {w w' : World} {e : Ev} (h : e.okAt w) (hf : Fresh w w') : e.okAt w' := ⟨h.1.later hf, h.2⟩
def sameE (a b : Ev) : Bool := decide (a.nm.toList = b.nm.toList) && (sameV a.r b.r && eqV a.n b.n a.f b.f)
theorem eqVals_lit (p q : Option Addr) (n m cap cap' : Nat) (f g : Nat → V3) (t : Bool) (h : eqV n m f g = t) (hn : n ≤ maxLen) (hm : m ≤ maxLen) (hc : n ≤ cap) (hc' : m ≤ cap') (w : World) (h1 : ValsAt w p n f) (h2 : ValsAt w q m g) :
    Calls Tryd.prog 25 #[.slice p n cap, .slice q m cap', .func (.func 24) #[] #[]] w fun e w' => e = .returned (.bool t) ∧ Fresh w w' := by
  subst h; exact eqVals_any p q n m cap cap' f g hn hm hc hc' w h1 h2
set_option maxHeartbeats 2000000 in
theorem sameEvent_any (a b : Ev) (w : World) (ha : a.okAt w) (hb : b.okAt w) :
    Calls Tryd.prog 10 #[.agg #[.string a.nm, .slice a.p a.n a.cap, .int .i64 a.r.k, .int .u64 a.r.n, .int .i64 a.r.b], .agg #[.string b.nm, .slice b.p b.n b.cap, .int .i64 b.r.k, .int .u64 b.r.n, .int .i64 b.r.b]] w
      fun e w' => e = .returned (.bool (sameE a b)) ∧ Fresh w w' := by
  obtain ⟨nm, p, n, cap, f, r⟩ := a
  obtain ⟨nm', p', n', cap', f', r'⟩ := b
  have HA := Lib.hid ha
  have HB := Lib.hid hb
  clear ha hb
  simp only
  cases hs : sameV r r'
  · have HS := Lib.hid hs
    clear hs
    go_enter Tryd.func10, Tryd.ntmps10
    go_wp2_with (go_at_call 24; refine (same_lit _ _ _ HS.out _).mono ?_; rintro e w1 ⟨rfl, h1⟩)
    all_goals go_returns
    all_goals first | exact ⟨ret_bool (by simp [sameE, HS.out]), (by (repeat' first | with_reducible exact Fresh.refl _ | with_reducible assumption | with_reducible refine Fresh.alloc ?_ _ _ | with_reducible refine Fresh.drew ?_ | with_reducible refine Fresh.setCell ?_ ?_ _ | with_reducible refine Fresh.trans ?_ (by assumption) | (simp; done) | (simp; omega)))⟩ | exact ⟨ret_bool (by simp [sameE, *]), (by (repeat' first | with_reducible exact Fresh.refl _ | with_reducible assumption | with_reducible refine Fresh.alloc ?_ _ _ | with_reducible refine Fresh.drew ?_ | with_reducible refine Fresh.setCell ?_ ?_ _ | with_reducible refine Fresh.trans ?_ (by assumption) | (simp; done) | (simp; omega)))⟩
  · cases he : eqV n n' f f'
    all_goals
      have HS := Lib.hid hs
      have HE := Lib.hid he
      clear hs he
      go_enter Tryd.func10, Tryd.ntmps10
      go_wp2_with (first | (go_at_call 24; refine (same_lit _ _ _ HS.out _).mono ?_; rintro e w1 ⟨rfl, h1⟩; obtain ⟨c1, f1⟩ := h1.cells; have z10 := h1.z (n := w.heap.size) (by first | assumption | (simp; done) | (simp; assumption) | (simp; omega)); have z11 := h1.z (n := w.heap.size + 1) (by first | assumption | (simp; done) | (simp; assumption) | (simp; omega))) | (go_at_call 25; refine (eqVals_lit p p' n n' cap cap' f f' _ HE.out (Nat.le_trans HA.out.2.1 HA.out.2.2) (Nat.le_trans HB.out.2.1 HB.out.2.2) HA.out.2.1 HB.out.2.1 _ (HA.out.1.later (by (repeat' first | with_reducible exact Fresh.refl _ | with_reducible assumption | with_reducible refine Fresh.alloc ?_ _ _ | with_reducible refine Fresh.drew ?_ | with_reducible refine Fresh.setCell ?_ ?_ _ | with_reducible refine Fresh.trans ?_ (by assumption) | (simp; done) | (simp; omega)))) (HB.out.1.later (by (repeat' first | with_reducible exact Fresh.refl _ | with_reducible assumption | with_reducible refine Fresh.alloc ?_ _ _ | with_reducible refine Fresh.drew ?_ | with_reducible refine Fresh.setCell ?_ ?_ _ | with_reducible refine Fresh.trans ?_ (by assumption) | (simp; done) | (simp; omega))))).mono ?_; rintro e w2 ⟨rfl, h2⟩))
      all_goals go_returns
      all_goals first | exact ⟨ret_bool (by simp [sameE, HS.out, HE.out, *]), (by (repeat' first | with_reducible exact Fresh.refl _ | with_reducible assumption | with_reducible refine Fresh.alloc ?_ _ _ | with_reducible refine Fresh.drew ?_ | with_reducible refine Fresh.setCell ?_ ?_ _ | with_reducible refine Fresh.trans ?_ (by assumption) | (simp; done) | (simp; omega)))⟩ | exact ⟨ret_bool (by simp [sameE, *]), (by (repeat' first | with_reducible exact Fresh.refl _ | with_reducible assumption | with_reducible refine Fresh.alloc ?_ _ _ | with_reducible refine Fresh.drew ?_ | with_reducible refine Fresh.setCell ?_ ?_ _ | with_reducible refine Fresh.trans ?_ (by assumption) | (simp; done) | (simp; omega)))⟩
end Go.Proofs.YtjbflmpnmobngaaDoor
