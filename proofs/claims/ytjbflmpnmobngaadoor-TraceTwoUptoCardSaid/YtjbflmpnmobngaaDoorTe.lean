/- Call of any arguments. -/
import Derived.Test.YtjbflmpnmobngaaDoorTd
import Derived.Test.YtjbflmpnmobngaaDoorDl
import Derived.Deep.RegionHeld3
namespace Go.Proofs.YtjbflmpnmobngaaDoor
set_option linter.unusedSimpArgs false
set_option linter.unusedVariables false
open Go.RowKit

theorem OutAt.low {N M : Nat} {w : World} {p : Option Addr} {n cap : Nat} {f : Nat → V3} (h : OutAt N w p n cap f) (hm : M ≤ N) : OutAt M w p n cap f :=
  ⟨h.1, h.2.1, h.2.2.1, fun a ha => ⟨Nat.le_trans hm (h.2.2.2 a ha).1, (h.2.2.2 a ha).2⟩⟩
theorem eqKinds_lit (p q : Option Addr) (n m cap cap' : Nat) (f : Nat → V3) (g : Nat → Int) (t : Bool) (ht : fitsV n m f g = t) (hn : n ≤ maxLen) (hm : m ≤ maxLen) (hc : n ≤ cap) (hc' : m ≤ cap') (w : World) (h1 : ValsAt w p n f) (h2 : NumsAt w q m g) :
    Calls Tryd.prog 21 #[.slice p n cap, .slice q m cap', .func (.func 22) #[] #[]] w fun e w' => e = .returned (.bool t) ∧ Fresh w w' := by
  subst ht; exact eqKinds_any p q n m cap cap' f g hn hm hc hc' w h1 h2
set_option maxHeartbeats 2000000 in
theorem call_not (name : ByteArray) (pp p q : Option Addr) (pn pc n cap m mc : Nat) (ks g : Nat → Int) (kd k : Int) (f : Nat → V3) (hp : pn ≤ pc) (hpm : pc ≤ maxLen) (hn : n ≤ cap) (hm : cap ≤ maxLen) (w : World) (h1 : NumsAt w pp pn ks) (h2 : ValsAt w p n f) (hf : fitsV n pn f ks = false) :
    Calls Tryd.prog 7 #[.string name, .agg #[.slice pp pn pc, .int .i64 kd], .slice p n cap, .slice q m mc, .int .i64 k] w fun e w' => e = .returned (.tuple #[.agg #[.string ⟨#[]⟩, .slice none 0 0, .int .i64 0, .int .u64 0, .int .i64 0], .bool false]) ∧ Fresh w w' := by
  have C : Hid (∀ X, Fresh w X → Calls Tryd.prog 21 #[.slice p n cap, .slice pp pn pc, .func (.func 22) #[] #[]] X fun e w' => e = .returned (.bool false) ∧ Fresh X w') := Lib.hid (fun X hX => eqKinds_lit p pp n pn cap pc f ks false hf (by omega) (by omega) hn hp X (h2.later hX) (h1.later hX))
  clear h1 h2 hf hp hpm hn hm
  go_enter Tryd.func7, Tryd.ntmps7
  go_wp2_with fail
  go_at_call 21; refine (C.out _ (by (repeat' first | with_reducible exact Fresh.refl _ | with_reducible assumption | with_reducible refine Fresh.alloc ?_ _ _ | with_reducible refine Fresh.drew ?_ | with_reducible refine Fresh.drewN ?_ _ | with_reducible refine Fresh.setCell ?_ ?_ _ | with_reducible refine Fresh.trans ?_ (by assumption) | (simp; done) | (simp; omega)))).mono ?_; rintro e w1 ⟨rfl, h1⟩
  have hz := h1.z (n := w.heap.size + 1) (by first | assumption | (simp; done) | (simp; assumption) | (simp; omega))
  obtain ⟨c1, f1⟩ := h1.cells
  go_wp2_with fail
  all_goals refine bodyPost_ret (v := ?_) ?_ rfl ?_; rotate_left 1; focus (simp [results, Tryd.results7, go_sem, *]; (try rfl); done)
  all_goals exact ⟨rfl, (by (repeat' first | with_reducible exact Fresh.refl _ | with_reducible assumption | with_reducible refine Fresh.alloc ?_ _ _ | with_reducible refine Fresh.drew ?_ | with_reducible refine Fresh.drewN ?_ _ | with_reducible refine Fresh.setCell ?_ ?_ _ | with_reducible refine Fresh.trans ?_ (by assumption) | (simp; done) | (simp; omega)))⟩
/-- What is carried through the region. -/
structure Cry (w : World) (kd : Int) (ad : Addr) (n : Nat) (f : Nat → V3) (q : Option Addr) (m : Nat) (g : Nat → Int) (wx : World) : Prop where
  s1 : wx.cell? ⟨w.heap.size, 1, none⟩ = some (.int .i64 kd)
  v : ValsAt wx (some ad) n f
  c : NumsAt wx q m g
  r : Res (w.heap.size + 1) wx
  b : Below w.heap.size w wx
theorem Cry.below {w : World} {kd : Int} {ad : Addr} {n : Nat} {f : Nat → V3} {q : Option Addr} {m : Nat} {g : Nat → Int} {wx wy : World} (h : Cry w kd ad n f q m g wx) (k : Below wx.heap.size wx wy) : Cry w kd ad n f q m g wy :=
  ⟨stays_below k _ _ _ h.s1, h.v.below k, h.c.below k, h.r.below k, h.b.trans (k.mono h.b.size)⟩
section
variable {w : World} {kd : Int} {ad : Addr} {n : Nat} {f : Nat → V3} {q : Option Addr} {m : Nat} {g : Nat → Int}
theorem clone_k (cap : Nat) (hn : n ≤ cap) (hm : cap ≤ maxLen) (hb : n ≤ 5864062014805) (wx : World) (h : Cry w kd ad n f q m g wx) :
    Calls Tryd.prog 23 #[.slice (some ad) n cap] wx fun e wy => ∃ p' cap', e = .returned (.slice p' n cap') ∧ OutAt (w.heap.size + 2) wy p' n cap' f ∧ Cry w kd ad n f q m g wy := by
  refine (clone_any ad n cap f hn hm hb wx h.v).mono ?_
  rintro e wy ⟨p', cap', he, ho, hb⟩
  exact ⟨p', cap', he, ho.low (by have := cell_lt h.r.r0; simp only at this; omega), h.below hb⟩
theorem answer_k (mc : Nat) (k : Int) (hn : m ≤ mc) (hm : mc ≤ maxLen) (wx : World) (h : Cry w kd ad n f q m g wx) :
    Calls Tryd.prog 11 #[.int .i64 kd, .slice q m mc, .int .i64 k] wx fun e wy => e = .returned (.agg #[.int .i64 (ansV kd (scr g m k)).k, .int .u64 (ansV kd (scr g m k)).n, .int .i64 (ansV kd (scr g m k)).b]) ∧ Cry w kd ad n f q m g wy ∧ Fresh wx wy := by
  refine (answer_11 kd k q m mc g hn hm wx h.c).mono ?_
  rintro e wy ⟨he, hf⟩
  exact ⟨he, h.below hf.below, hf⟩
end
theorem OutAt.set5 {N : Nat} {w : World} {p : Option Addr} {n cap : Nat} {f : Nat → V3} (h : OutAt N w p n cap f) {R : Nat} (hg : R < N) (x0 x1 x2 x3 x4 : Value) :
    OutAt N (((((w.setCell ⟨R, 0, none⟩ x0).setCell ⟨R, 1, none⟩ x1).setCell ⟨R, 2, none⟩ x2).setCell ⟨R, 3, none⟩ x3).setCell ⟨R, 4, none⟩ x4) p n cap f :=
  ((((h.set hg 0 x0).set hg 1 x1).set hg 2 x2).set hg 3 x3).set hg 4 x4
set_option maxRecDepth 100000 in
set_option maxHeartbeats 4000000 in
theorem call_yes (name : ByteArray) (pp q : Option Addr) (ad : Addr) (pn pc n cap m mc : Nat) (ks g : Nat → Int) (kd k : Int) (f : Nat → V3) (hp : pn ≤ pc) (hpm : pc ≤ maxLen) (hn : n ≤ cap) (hm : cap ≤ maxLen) (hb : n ≤ 5864062014805) (hmc : m ≤ mc) (hmm : mc ≤ maxLen) (w : World) (h1 : NumsAt w pp pn ks) (h2 : ValsAt w (some ad) n f) (h3 : NumsAt w q m g) (hf : fitsV n pn f ks = true) :
    Calls Tryd.prog 7 #[.string name, .agg #[.slice pp pn pc, .int .i64 kd], .slice (some ad) n cap, .slice q m mc, .int .i64 k] w fun e w' => (∃ p' cap', e = .returned (.tuple #[.agg #[.string name, .slice p' n cap', .int .i64 (ansV kd (scr g m k)).k, .int .u64 (ansV kd (scr g m k)).n, .int .i64 (ansV kd (scr g m k)).b], .bool true]) ∧ OutAt w.heap.size w' p' n cap' f) ∧ Below w.heap.size w w' := by
  have C : Hid (∀ X, Fresh w X → Calls Tryd.prog 21 #[.slice (some ad) n cap, .slice pp pn pc, .func (.func 22) #[] #[]] X fun e w' => e = .returned (.bool true) ∧ Fresh X w') := Lib.hid (fun X hX => eqKinds_lit (some ad) pp n pn cap pc f ks true hf (by omega) (by omega) hn hp X (h2.later hX) (h1.later hX))
  have HV := Lib.hid h2
  have HC := Lib.hid h3
  have C23 : Hid (∀ wx, Cry w kd ad n f q m g wx → Calls Tryd.prog 23 #[.slice (some ad) n cap] wx fun e wy => ∃ p' cap', e = .returned (.slice p' n cap') ∧ OutAt (w.heap.size + 2) wy p' n cap' f ∧ Cry w kd ad n f q m g wy) := Lib.hid (fun wx h => clone_k cap hn hm hb wx h)
  have C11 : Hid (∀ wx, Cry w kd ad n f q m g wx → Calls Tryd.prog 11 #[.int .i64 kd, .slice q m mc, .int .i64 k] wx fun e wy => e = .returned (.agg #[.int .i64 (ansV kd (scr g m k)).k, .int .u64 (ansV kd (scr g m k)).n, .int .i64 (ansV kd (scr g m k)).b]) ∧ Cry w kd ad n f q m g wy ∧ Fresh wx wy) := Lib.hid (fun wx h => answer_k mc k hmc hmm wx h)
  generalize ansV kd (scr g m k) = A at *
  clear h1 h2 h3 hf hp hpm hn hm hb hmc hmm
  go_enter Tryd.func7, Tryd.ntmps7
  go_wp2_with fail
  go_at_call 21; refine (C.out _ (by (repeat' first | with_reducible exact Fresh.refl _ | with_reducible assumption | with_reducible refine Fresh.alloc ?_ _ _ | with_reducible refine Fresh.drew ?_ | with_reducible refine Fresh.drewN ?_ _ | with_reducible refine Fresh.setCell ?_ ?_ _ | with_reducible refine Fresh.trans ?_ (by assumption) | (simp; done) | (simp; omega)))).mono ?_; rintro e w1 ⟨rfl, h1⟩
  clear C
  go_wp2_with fail
  have R0 : Res (w.heap.size + 1) ((w.alloc (.cells #[.slice pp pn pc, .int .i64 kd] 24)).alloc (.cells #[.string ⟨#[]⟩, .slice none 0 0, .int .i64 0, .int .u64 0, .int .i64 0] 32)) :=
    ⟨by simp [go_sem], by simp [go_sem], by simp [go_sem], by simp [go_sem], by simp [go_sem], fun o => World.frozen?_alloc_at _ _ _ o (by simp)⟩
  have s1 : ((w.alloc (.cells #[.slice pp pn pc, .int .i64 kd] 24)).alloc (.cells #[.string ⟨#[]⟩, .slice none 0 0, .int .i64 0, .int .u64 0, .int .i64 0] 32)).cell? ⟨w.heap.size, 1, none⟩ = some (.int .i64 kd) := by simp [go_sem]
  have HW : Fresh w w1 := (by (repeat' first | with_reducible exact Fresh.refl _ | with_reducible assumption | with_reducible refine Fresh.alloc ?_ _ _ | with_reducible refine Fresh.drew ?_ | with_reducible refine Fresh.drewN ?_ _ | with_reducible refine Fresh.setCell ?_ ?_ _ | with_reducible refine Fresh.trans ?_ (by assumption) | (simp; done) | (simp; omega)))
  have K0 := Lib.hid (Cry.below (w := w) (kd := kd) (ad := ad) (n := n) (f := f) (q := q) (m := m) (g := g) ⟨h1.at' s1, HV.out.later HW, HC.out.later HW, R0.below h1.below, HW.below⟩ (Fresh.refl w1).drew.below)
  clear R0 s1 h1 HW HV HC
  go_region_held3 (fun w' => w'.cell? ⟨w.heap.size, 1, none⟩ = some (.int .i64 kd)) (first | with_reducible exact K2.out.s1 | with_reducible exact K1.out.s1 | with_reducible exact K0.out.s1 | (simp [go_sem]; first | with_reducible exact K2.out.s1 | with_reducible exact K1.out.s1)) (first | (go_at_call 23; refine (C23.out _ (by first | with_reducible exact K2.out | with_reducible exact K0.out)).mono ?_; rintro e w2 ⟨p', cap', rfl, q1, q2⟩; have HG := Lib.hid q1; have K1 := Lib.hid q2; clear q1 q2; obtain ⟨r0, r1, r2, r3, r4, rf⟩ := K1.out.r) | (go_at_call 11; refine (C11.out _ (by first | with_reducible exact K1.out | with_reducible exact K0.out)).mono ?_; rintro e w3 ⟨rfl, q2, q3⟩; have K2 := Lib.hid q2; have HF := Lib.hid q3; clear q2 q3; obtain ⟨r0, r1, r2, r3, r4, rf⟩ := K2.out.r))
  all_goals (try go_wp2)
  all_goals refine bodyPost_ret (v := ?_) ?_ rfl ?_; rotate_left 1; focus (simp [results, Tryd.results7, go_sem, *]; (try rfl); done)
  · exact ⟨⟨p', cap', rfl, ((HG.out.below HF.out.below).set5 (by omega) ..).low (by omega)⟩, wrote_b K2.out.b ..⟩
end Go.Proofs.YtjbflmpnmobngaaDoor
