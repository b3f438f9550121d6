/- The fixed call of Call, whole. -/
import Derived.Test.YtjbflmpnmobngaaDoorDk
import Derived.Deep.RegionHeld3
namespace Go.Proofs.YtjbflmpnmobngaaDoor
set_option linter.unusedSimpArgs false
set_option linter.unusedVariables false
open Go.RowKit

/-- What is carried through the region. -/
structure Carry (w : World) (V vo C co : Nat) (wx : World) : Prop where
  s1 : wx.cell? ⟨w.heap.size, 1, none⟩ = some (.int .i64 1)
  v : OneAt V vo wx
  c : wx.cell? ⟨C, co, none⟩ = some (.int .i64 4294967297)
  r : Res (w.heap.size + 1) wx
  b : Below w.heap.size w wx
theorem Carry.below {w : World} {V vo C co : Nat} {wx wy : World} (h : Carry w V vo C co wx) (k : Below wx.heap.size wx wy) : Carry w V vo C co wy :=
  ⟨stays_below k _ _ _ h.s1, h.v.below k, stays_below k _ _ _ h.c, h.r.below k, h.b.trans (k.mono h.b.size)⟩
/-- The clone that was made. -/
structure Cl (g cap : Nat) (wx : World) : Prop where
  c1 : 1 ≤ cap
  c2 : cap ≤ maxLen
  o : OneAt g 0 wx
theorem clone_c (w : World) (V vo C co vc : Nat) (hvc : 1 ≤ vc) (hvm : vc ≤ maxLen) (wx : World) (h : Carry w V vo C co wx) :
    Calls Tryd.prog 23 #[.slice (some ⟨V, vo, none⟩) 1 vc] wx fun e wy => ∃ g cap, e = .returned (.slice (some ⟨g, 0, none⟩) 1 cap) ∧ (Cl g cap wy ∧ Carry w V vo C co wy ∧ w.heap.size + 1 < g) := by
  refine (clone_1 V vo vc hvc hvm wx h.v).mono ?_
  rintro e wy ⟨g, cap, he, k0, k1, k2, k3, k4⟩
  exact ⟨g, cap, he, ⟨k0, k1, k2⟩, h.below k4, Nat.lt_of_lt_of_le (cell_lt h.r.r0) k3⟩
theorem answer_c (w : World) (V vo C co cc : Nat) (hcc : 1 ≤ cc) (wx : World) (h : Carry w V vo C co wx) :
    Calls Tryd.prog 11 #[.int .i64 1, .slice (some ⟨C, co, none⟩) 1 cc, .int .i64 0] wx fun e wy => e = .returned (.agg #[.int .i64 1, .int .u64 1, .int .i64 0]) ∧ (Carry w V vo C co wy ∧ Fresh wx wy) := by
  refine (answer_1 C co cc wx hcc h.c).mono ?_
  rintro e wy ⟨he, hf⟩
  exact ⟨he, h.below hf.below, hf⟩
theorem wrote_b {w wx : World} (h : Below w.heap.size w wx) (x0 x1 x2 x3 x4 : Value) :
    Below w.heap.size w (((((wx.setCell ⟨w.heap.size + 1, 0, none⟩ x0).setCell ⟨w.heap.size + 1, 1, none⟩ x1).setCell ⟨w.heap.size + 1, 2, none⟩ x2).setCell ⟨w.heap.size + 1, 3, none⟩ x3).setCell ⟨w.heap.size + 1, 4, none⟩ x4) :=
  ((((h.setCell (p := ⟨w.heap.size + 1, 0, none⟩) (by simp) x0).setCell (p := ⟨w.heap.size + 1, 1, none⟩) (by simp) x1).setCell (p := ⟨w.heap.size + 1, 2, none⟩) (by simp) x2).setCell (p := ⟨w.heap.size + 1, 3, none⟩) (by simp) x3).setCell (p := ⟨w.heap.size + 1, 4, none⟩) (by simp) x4
theorem wrote_c {wx : World} {g i R : Nat} {v : Value} (h : wx.cell? ⟨g, i, none⟩ = some v) (hg : R < g) (x0 x1 x2 x3 x4 : Value) :
    (((((wx.setCell ⟨R, 0, none⟩ x0).setCell ⟨R, 1, none⟩ x1).setCell ⟨R, 2, none⟩ x2).setCell ⟨R, 3, none⟩ x3).setCell ⟨R, 4, none⟩ x4).cell? ⟨g, i, none⟩ = some v := by
  rw [World.cell?_setCell_other _ _ _ _ (by first | (simp; done) | (simp; omega)), World.cell?_setCell_other _ _ _ _ (by first | (simp; done) | (simp; omega)), World.cell?_setCell_other _ _ _ _ (by first | (simp; done) | (simp; omega)), World.cell?_setCell_other _ _ _ _ (by first | (simp; done) | (simp; omega)), World.cell?_setCell_other _ _ _ _ (by first | (simp; done) | (simp; omega))]
  exact h
theorem wrote_o {wx : World} {g R : Nat} (h : OneAt g 0 wx) (hg : R < g) (x0 x1 x2 x3 x4 : Value) :
    OneAt g 0 (((((wx.setCell ⟨R, 0, none⟩ x0).setCell ⟨R, 1, none⟩ x1).setCell ⟨R, 2, none⟩ x2).setCell ⟨R, 3, none⟩ x3).setCell ⟨R, 4, none⟩ x4) :=
  ⟨wrote_c h.a0 hg .., wrote_c h.a1 hg .., wrote_c h.a2 hg ..⟩
set_option maxRecDepth 100000 in
set_option maxHeartbeats 4000000 in
theorem call_1 (P po pc V vo vc C co cc : Nat) (hpc : 1 ≤ pc) (hvc : 1 ≤ vc) (hvm : vc ≤ maxLen) (hcc : 1 ≤ cc) (w : World) (hp : w.cell? ⟨P, po, none⟩ = some (.int .i64 1)) (hv : OneAt V vo w) (hc : w.cell? ⟨C, co, none⟩ = some (.int .i64 4294967297)) :
    Calls Tryd.prog 7 #[.string put, .agg #[.slice (some ⟨P, po, none⟩) 1 pc, .int .i64 1], .slice (some ⟨V, vo, none⟩) 1 vc, .slice (some ⟨C, co, none⟩) 1 cc, .int .i64 0] w (Called w) := by
  have HP := Lib.hid hp
  have HV := Lib.hid hv
  have HC := Lib.hid hc
  have HM := Lib.hid (And.intro hvm (And.intro hvc hcc))
  clear hp hv hc hvm
  go_enter Tryd.func7, Tryd.ntmps7
  go_wp2_with fail
  go_at_call 21; refine (eqKinds_1 V vo vc P po pc hvc hpc _ (HV.out.fresh (by (repeat' first | with_reducible exact Fresh.refl _ | with_reducible assumption | with_reducible refine Fresh.alloc ?_ _ _ | with_reducible refine Fresh.drew ?_ | with_reducible refine Fresh.setCell ?_ ?_ _ | with_reducible refine Fresh.trans ?_ (by assumption) | (simp; done) | (simp; omega)))) (((by (repeat' first | with_reducible exact Fresh.refl _ | with_reducible assumption | with_reducible refine Fresh.alloc ?_ _ _ | with_reducible refine Fresh.drew ?_ | with_reducible refine Fresh.setCell ?_ ?_ _ | with_reducible refine Fresh.trans ?_ (by assumption) | (simp; done) | (simp; omega))) : Fresh w _).at' HP.out)).mono ?_; rintro e w1 ⟨rfl, h1⟩
  clear hvc hpc hcc
  go_wp2_with fail
  have R0 : Res (w.heap.size + 1) ((w.alloc (.cells #[.slice (some ⟨P, po, none⟩) 1 pc, .int .i64 1] 24)).alloc (.cells #[.string ⟨#[]⟩, .slice none 0 0, .int .i64 0, .int .u64 0, .int .i64 0] 32)) :=
    ⟨by simp [go_sem], by simp [go_sem], by simp [go_sem], by simp [go_sem], by simp [go_sem], fun o => World.frozen?_alloc_at _ _ _ o (by simp)⟩
  have s1 : ((w.alloc (.cells #[.slice (some ⟨P, po, none⟩) 1 pc, .int .i64 1] 24)).alloc (.cells #[.string ⟨#[]⟩, .slice none 0 0, .int .i64 0, .int .u64 0, .int .i64 0] 32)).cell? ⟨w.heap.size, 1, none⟩ = some (.int .i64 1) := by simp [go_sem]
  have HW : Fresh w w1 := (by (repeat' first | with_reducible exact Fresh.refl _ | with_reducible assumption | with_reducible refine Fresh.alloc ?_ _ _ | with_reducible refine Fresh.drew ?_ | with_reducible refine Fresh.setCell ?_ ?_ _ | with_reducible refine Fresh.trans ?_ (by assumption) | (simp; done) | (simp; omega)))
  have K0 := Lib.hid (Carry.below (w := w) (V := V) (vo := vo) (C := C) (co := co) ⟨h1.at' s1, HV.out.fresh HW, HW.at' HC.out, R0.below h1.below, HW.below⟩ (Fresh.refl w1).drew.below)
  clear R0 s1 h1 HW HV HP HC
  go_region_held3 (fun w' => w'.cell? ⟨w.heap.size, 1, none⟩ = some (.int .i64 1)) (first | with_reducible exact K2.out.s1 | with_reducible exact K1.out.s1 | with_reducible exact K0.out.s1 | (simp [go_sem]; first | with_reducible exact K2.out.s1 | with_reducible exact K1.out.s1)) (first | (go_at_call 23; refine (clone_c w V vo C co vc HM.out.2.1 HM.out.1 _ (by first | with_reducible exact K2.out | with_reducible exact K0.out)).mono ?_; rintro e w2 ⟨g, cap, rfl, q1, q2, q3⟩; have HG := Lib.hid q1; have K1 := Lib.hid q2; have HZ := Lib.hid q3; clear q1 q2 q3; obtain ⟨r0, r1, r2, r3, r4, rf⟩ := K1.out.r) | (go_at_call 11; refine (answer_c w V vo C co cc HM.out.2.2 _ (by first | with_reducible exact K1.out | with_reducible exact K0.out)).mono ?_; rintro e w3 ⟨rfl, q2, q3⟩; have K2 := Lib.hid q2; have HF := Lib.hid q3; clear q2 q3; obtain ⟨r0, r1, r2, r3, r4, rf⟩ := K2.out.r))
  all_goals (try go_wp2)
  all_goals (refine bodyPost_ret (v := ?_) ?_ rfl ?_; rotate_left 1; focus (simp [results, Tryd.results7, go_sem, *]; (try rfl); done))
  · exact ⟨g, cap, rfl, HG.out.c1, HG.out.c2, wrote_o (HG.out.o.fresh HF.out) HZ.out .., wrote_b K2.out.b ..⟩
end Go.Proofs.YtjbflmpnmobngaaDoor
