/- How deep types nest: the program. -/
import Derived.Test.YteiomcbphbbpkaaDoorGx
import Derived.Test.YteiomcbphbbpkaaDoorFx
import Derived.Lib.AppendIntMem
import Derived.Shelf.SlSorted.Search
import Derived.Laws.IdiomStrings
import Derived.Deep.RegionHeld3
namespace Go.Proofs.YteiomcbphbbpkaaDoor
set_option linter.unusedSimpArgs false
set_option linter.unusedVariables false
open Go.RowKit
attribute [local go_sem] as_98_98 as_98_62 as_98_65 as_98_67 as_98_71 as_98_69 as_98_85 as_62_98 as_62_62 as_62_65 as_62_67 as_62_71 as_62_69 as_62_85 as_65_98 as_65_62 as_65_65 as_65_67 as_65_71 as_65_69 as_65_85 as_67_98 as_67_62 as_67_65 as_67_67 as_67_71 as_67_69 as_67_85 as_71_98 as_71_62 as_71_65 as_71_67 as_71_71 as_71_69 as_71_85 as_69_98 as_69_62 as_69_65 as_69_67 as_69_71 as_69_69 as_69_85 as_85_98 as_85_62 as_85_65 as_85_67 as_85_71 as_85_69 as_85_85 as_nil_98 as_nil_62 as_nil_65 as_nil_67 as_nil_71 as_nil_69 as_nil_85

/-- Depth of this type. -/
def DepSpec (f : FuncId) (h : Hd) (ks : Tys) : Prop := ∀ (ok : Nat → Prop) (p : Option Addr) (n cap : Nat) (w0 w : World), Fresh w0 w → Kids ok w0 ks p n cap →
  Calls Tryd.prog f #[.agg #[.int .i64 h.kind, .int .i64 h.size, .int .i64 h.len, .bool h.flag, .string h.name, .slice p n cap]] w fun e w' => e = .returned (.int .i64 (depT h ks.dep)) ∧ Fresh w w'
def AllDep (f : FuncId) : Tys → Prop
  | .nil => True
  | .cons h k r => DepSpec f h k ∧ AllDep f r
section
variable {ok : Nat → Prop} (h : Hd) (ks : Tys) (p : Option Addr) (n cap : Nat) (w0 w : World)
theorem depth_1 (hk : h.kind = 1) : Calls Tryd.prog 20 #[.agg #[.int .i64 h.kind, .int .i64 h.size, .int .i64 h.len, .bool h.flag, .string h.name, .slice p n cap]] w fun e w' => e = .returned (.int .i64 1) ∧ Fresh w w' := by
  have HKD := Lib.hid hk
  clear hk
  have q := eq_if
  go_enter Tryd.func20, Tryd.ntmps20
  go_wp2_with (go_at_call 43; refine (view1 h p n cap _ HKD.out).mono ?_; rintro e w1 ⟨rfl, h1⟩)
  go_returns
  exact ⟨rfl, (by (repeat' first | with_reducible exact Fresh.refl _ | with_reducible assumption | with_reducible refine Fresh.alloc ?_ _ _ | with_reducible refine Fresh.drew ?_ | with_reducible refine Fresh.drewN ?_ _ | with_reducible refine Fresh.setCell ?_ ?_ _ | with_reducible refine Fresh.trans ?_ (by assumption) | (simp; done) | (simp; omega)))⟩
theorem depth_3 (hk : h.kind = 3) : Calls Tryd.prog 20 #[.agg #[.int .i64 h.kind, .int .i64 h.size, .int .i64 h.len, .bool h.flag, .string h.name, .slice p n cap]] w fun e w' => e = .returned (.int .i64 1) ∧ Fresh w w' := by
  have HKD := Lib.hid hk
  clear hk
  have q := eq_if
  go_enter Tryd.func20, Tryd.ntmps20
  go_wp2_with (go_at_call 43; refine (view3 h p n cap _ HKD.out).mono ?_; rintro e w1 ⟨rfl, h1⟩)
  go_returns
  exact ⟨rfl, (by (repeat' first | with_reducible exact Fresh.refl _ | with_reducible assumption | with_reducible refine Fresh.alloc ?_ _ _ | with_reducible refine Fresh.drew ?_ | with_reducible refine Fresh.drewN ?_ _ | with_reducible refine Fresh.setCell ?_ ?_ _ | with_reducible refine Fresh.trans ?_ (by assumption) | (simp; done) | (simp; omega)))⟩
theorem depth_6 (hk : h.kind = 6) : Calls Tryd.prog 20 #[.agg #[.int .i64 h.kind, .int .i64 h.size, .int .i64 h.len, .bool h.flag, .string h.name, .slice p n cap]] w fun e w' => e = .returned (.int .i64 1) ∧ Fresh w w' := by
  have HKD := Lib.hid hk
  clear hk
  have q := eq_if
  go_enter Tryd.func20, Tryd.ntmps20
  go_wp2_with (go_at_call 43; refine (view6 h p n cap _ HKD.out).mono ?_; rintro e w1 ⟨rfl, h1⟩)
  go_returns
  exact ⟨rfl, (by (repeat' first | with_reducible exact Fresh.refl _ | with_reducible assumption | with_reducible refine Fresh.alloc ?_ _ _ | with_reducible refine Fresh.drew ?_ | with_reducible refine Fresh.drewN ?_ _ | with_reducible refine Fresh.setCell ?_ ?_ _ | with_reducible refine Fresh.trans ?_ (by assumption) | (simp; done) | (simp; omega)))⟩
theorem depth_0 (hk : h.kind = 0) : Calls Tryd.prog 20 #[.agg #[.int .i64 h.kind, .int .i64 h.size, .int .i64 h.len, .bool h.flag, .string h.name, .slice p n cap]] w fun e w' => e = .returned (.int .i64 0) ∧ Fresh w w' := by
  have HKD := Lib.hid hk
  clear hk
  go_enter Tryd.func20, Tryd.ntmps20
  go_wp2_with (go_at_call 43; refine (view0 h p n cap _ (by have := HKD.out; omega)).mono ?_; rintro e w1 ⟨rfl, h1⟩)
  go_returns
  exact ⟨rfl, (by (repeat' first | with_reducible exact Fresh.refl _ | with_reducible assumption | with_reducible refine Fresh.alloc ?_ _ _ | with_reducible refine Fresh.drew ?_ | with_reducible refine Fresh.drewN ?_ _ | with_reducible refine Fresh.setCell ?_ ?_ _ | with_reducible refine Fresh.trans ?_ (by assumption) | (simp; done) | (simp; omega)))⟩
variable (hf : Fresh w0 w) (hks : Kids ok w0 ks p n cap)
include hf hks
set_option maxRecDepth 100000 in
set_option maxHeartbeats 4000000 in
theorem depth_7 (hk : h.kind = 7) (D : Nat) (hall : AllDep 20 ks.rest) (hD : max D ks.rest.dep ≤ 1000)
    (kid : ∀ (X : World) (p' : Option Addr) (n' cap' : Nat), Fresh w0 X → Kids ok w0 ks.kids p' n' cap' → Calls Tryd.prog 20 #[.agg #[.int .i64 ks.hd.kind, .int .i64 ks.hd.size, .int .i64 ks.hd.len, .bool ks.hd.flag, .string ks.hd.name, .slice p' n' cap']] X fun e w' => e = .returned (.int .i64 D) ∧ Fresh X w') :
    Calls Tryd.prog 20 #[.agg #[.int .i64 h.kind, .int .i64 h.size, .int .i64 h.len, .bool h.flag, .string h.name, .slice p n cap]] w fun e w' => e = .returned (.int .i64 ((max D ks.rest.dep : Nat) + 1 : Int)) ∧ Fresh w w' := by
  have HKD := Lib.hid hk
  have HK := Lib.hid hks
  have HF := Lib.hid hf
  have KID := Lib.hid kid
  have HAL := Lib.hid hall
  have HD := Lib.hid hD
  clear hk hks hf kid hall hD
  have q := eq_if
  go_enter Tryd.func20, Tryd.ntmps20
  go_wp2_with fail
  go_at_call 43; refine (view7 h ks p n cap _ w0 (HF.out.trans (by (repeat' first | with_reducible exact Fresh.refl _ | with_reducible assumption | with_reducible refine Fresh.alloc ?_ _ _ | with_reducible refine Fresh.drew ?_ | with_reducible refine Fresh.drewN ?_ _ | with_reducible refine Fresh.setCell ?_ ?_ _ | with_reducible refine Fresh.trans ?_ (by assumption) | (simp; done) | (simp; omega)))) HK.out HKD.out).mono ?_; rintro e w1 ⟨⟨p1, n1, cap1, p2, n2, cap2, rfl, hk1, hk2⟩, h1⟩; have HK1 := Lib.hid hk1; have HK2 := Lib.hid hk2; clear hk1 hk2
  have H1 := Lib.hid (show Fresh w w1 from (by (repeat' first | with_reducible exact Fresh.refl _ | with_reducible assumption | with_reducible refine Fresh.alloc ?_ _ _ | with_reducible refine Fresh.drew ?_ | with_reducible refine Fresh.drewN ?_ _ | with_reducible refine Fresh.setCell ?_ ?_ _ | with_reducible refine Fresh.trans ?_ (by assumption) | (simp; done) | (simp; omega))))
  clear h1
  go_wp2_with fail
  have T6 := Lib.hid (Blk.new w1 #[.int .i64 ks.hd.kind, .int .i64 ks.hd.size, .int .i64 ks.hd.len, .bool ks.hd.flag, .string ks.hd.name, .slice p1 n1 cap1, .slice p2 n2 cap2] 85)
  go_at_call 20; refine (KID.out _ p1 n1 cap1 (HF.out.trans (H1.out.trans (by (repeat' first | with_reducible exact Fresh.refl _ | with_reducible assumption | with_reducible refine Fresh.alloc ?_ _ _ | with_reducible refine Fresh.drew ?_ | with_reducible refine Fresh.drewN ?_ _ | with_reducible refine Fresh.setCell ?_ ?_ _ | with_reducible refine Fresh.trans ?_ (by assumption) | (simp; done) | (simp; omega))))) HK1.out).mono ?_; rintro e w2 ⟨rfl, h2⟩
  have g6 := (T6.out.fresh h2).1 6 _ rfl
  have H2 := Lib.hid (H1.out.trans (show Fresh w1 w2 from (by (repeat' first | with_reducible exact Fresh.refl _ | with_reducible assumption | with_reducible refine Fresh.alloc ?_ _ _ | with_reducible refine Fresh.drew ?_ | with_reducible refine Fresh.drewN ?_ _ | with_reducible refine Fresh.setCell ?_ ?_ _ | with_reducible refine Fresh.trans ?_ (by assumption) | (simp; done) | (simp; omega)))))
  clear h2 T6
  have HN := Lib.hid HK2.out.1
  have hcap : cap2 ≤ 9223372036854775807 := HK2.out.2.2.1
  have hnc : n2 ≤ cap2 := HK2.out.2.1
  obtain ⟨xs, hx, hxl, hxp⟩ := HK2.out.cells
  have HP1 : Hid (n2 = 0 ∨ ∃ B off, p2 = some ⟨B, off, none⟩) := Lib.hid (by
    rcases hxp with ⟨-, h, -⟩ | ⟨B, off, e, -⟩
    · exact Or.inl h
    · exact Or.inr ⟨B, off, e⟩)
  have R1 : Hid (RestAt w0 p2 0 xs) := Lib.hid (by
    intro B off e j u hu
    rcases hxp with ⟨e', -⟩ | ⟨B', off', e', h⟩
    · rw [e] at e'; cases e'
    · rw [e] at e'; cases e'
      have := h j u hu
      rw [Go.WideShapes.add_plain] at this
      simpa using this)
  have HX := Lib.hid hx
  clear hx hxl hxp
  generalize hM : max D ks.rest.dep = M at *
  have HM := Lib.hid hM
  clear hM
  go_wp2_with fail
  go_loopw [7, 36] (fun v i wr => ∃ (k d : Nat) (r1 : Tys) (zs1 : List Value), k ≤ n2 ∧ i = .int .i64 k ∧ v = .int .i64 d ∧ Hid (M = max d r1.dep ∧ r1.length = n2 - k ∧ AllDep 20 r1) ∧ Hid (r1.cells ok w0 zs1 ∧ RestAt w0 p2 k zs1) ∧ Hid (Fresh w2 wr)) (fun _ i _ => n2 - (intOf i).toNat)
  case atStart => exact ⟨0, D, ks.rest, xs, by omega, rfl, rfl, Lib.hid ⟨HM.out.symm, HN.out.symm, HAL.out⟩, Lib.hid ⟨HX.out, R1.out⟩, Lib.hid (Fresh.refl w2)⟩
  case round =>
    obtain ⟨k, d, r1, zs1, hk, rfl, rfl, HI, HC, FW⟩ := hrel
    by_cases hlt : k < n2
    · cases r1 with
      | nil => exfalso; have := HI.out.2.1; simp [Tys.length] at this; omega
      | cons h1 k1 r1' =>
        obtain ⟨⟨q1, m1, c1, zs1', rfl, hk1, hr1⟩, ha1⟩ := HC.out
        obtain ⟨B1, off1, rfl⟩ := HP1.out.resolve_left (by omega)
        obtain ⟨a0, a1, a2, a3, a4, a5, ar⟩ := six_at (ha1 B1 off1 rfl)
        have S1 : Hid (RestAt w0 (some ⟨B1, off1, none⟩) (k + 1) zs1') := Lib.hid (fun B off e j u hu => by
          cases e
          have := ar j u hu
          rwa [show off1 + k * 6 + 6 + j = off1 + (k + 1) * 6 + j by omega] at this)
        have FX := HF.out.trans (H2.out.trans FW.out)
        have a0 := FX.at' a0
        have a1 := FX.at' a1
        have a2 := FX.at' a2
        have a3 := FX.at' a3
        have a4 := FX.at' a4
        have a5 := FX.at' a5
        have az := cell_lt a0
        simp only at az
        have CS : Hid (∀ Y, Fresh w0 Y → Calls Tryd.prog 20 #[.agg #[.int .i64 h1.kind, .int .i64 h1.size, .int .i64 h1.len, .bool h1.flag, .string h1.name, .slice q1 m1 c1]] Y fun e w' => e = .returned (.int .i64 (depT h1 k1.dep)) ∧ Fresh Y w') := Lib.hid (fun Y hY => HI.out.2.2.1 ok q1 m1 c1 w0 Y hY hk1)
        have HI2 : Hid (M = max (max d (depT h1 k1.dep)) r1'.dep ∧ r1'.length = n2 - (k + 1) ∧ AllDep 20 r1') := Lib.hid (by
          obtain ⟨i1, i2, i3⟩ := HI.out
          refine ⟨by rw [i1, Tys.dep]; omega, ?_, i3.2⟩
          simp [Tys.length] at i2
          omega)
        have HC2 := Lib.hid hr1
        have hlt' : (k : Int) < (n2 : Int) := by omega
        clear ar ha1 hk1 hr1 HI HC FX
        generalize depT h1 k1.dep = t at *
        have hmx : max (d : Int) (t : Int) = ((max d t : Nat) : Int) := by omega
        go_wp2_with fail
        go_at_call 20; refine (CS.out _ (HF.out.trans (H2.out.trans (FW.out.trans (by (repeat' first | with_reducible exact Fresh.refl _ | with_reducible assumption | with_reducible refine Fresh.alloc ?_ _ _ | with_reducible refine Fresh.drew ?_ | with_reducible refine Fresh.drewN ?_ _ | with_reducible refine Fresh.setCell ?_ ?_ _ | with_reducible refine Fresh.trans ?_ (by assumption) | (simp; done) | (simp; omega))))))).mono ?_; rintro e w3 ⟨rfl, h3⟩
        have F1 := Lib.hid (FW.out.trans (show Fresh wr w3 from (by (repeat' first | with_reducible exact Fresh.refl _ | with_reducible assumption | with_reducible refine Fresh.alloc ?_ _ _ | with_reducible refine Fresh.drew ?_ | with_reducible refine Fresh.drewN ?_ _ | with_reducible refine Fresh.setCell ?_ ?_ _ | with_reducible refine Fresh.trans ?_ (by assumption) | (simp; done) | (simp; omega)))))
        clear a0 a1 a2 a3 a4 a5 az h3 CS
        go_wp2_with fail
        go_roundw
        case rel => exact ⟨k + 1, max d t, r1', zs1', by omega, by go_num, by first | rfl | (rw [hmx]; done) | (congr 1; omega) | skip, HI2, Lib.hid ⟨HC2.out, S1.out⟩, F1⟩
        case measure => simp [intOf]; omega
    · obtain rfl : k = n2 := by omega
      have hR : M = d := by
        obtain ⟨i1, i2, -⟩ := HI.out
        cases r1 with
        | nil => simpa [Tys.dep] using i1
        | cons _ _ _ => simp [Tys.length] at i2
      subst hR
      have hM := HD.out
      have hMM := HM.out
      go_wp2_with fail
      go_returns
      exact ⟨ret_int (by omega), H2.out.trans FW.out⟩
end
end Go.Proofs.YteiomcbphbbpkaaDoor
/- How deep types nest: the reference; and both at every type. -/
namespace Go.Proofs.YteiomcbphbbpkaaDoor
set_option linter.unusedSimpArgs false
set_option linter.unusedVariables false
open Go.RowKit
section
variable {ok : Nat → Prop} (h : Hd) (ks : Tys) (p : Option Addr) (n cap : Nat) (w0 w : World)
theorem depthR_0 (hk : h.kind = 0) : Calls Tryd.prog 21 #[.agg #[.int .i64 h.kind, .int .i64 h.size, .int .i64 h.len, .bool h.flag, .string h.name, .slice p n cap]] w fun e w' => e = .returned (.int .i64 0) ∧ Fresh w w' := by
  have HKD := Lib.hid hk
  clear hk
  have kk0 : (h.kind == 0) = true := by rw [HKD.out]; rfl
  have kk4 : (h.kind == 4) = false := by rw [HKD.out]; rfl
  have kk5 : (h.kind == 5) = false := by rw [HKD.out]; rfl
  have kk7 : (h.kind == 7) = false := by rw [HKD.out]; rfl
  go_enter Tryd.func21, Tryd.ntmps21
  go_wp2_with fail
  go_returns
  exact ⟨rfl, (by (repeat' first | with_reducible exact Fresh.refl _ | with_reducible assumption | with_reducible refine Fresh.alloc ?_ _ _ | with_reducible refine Fresh.drew ?_ | with_reducible refine Fresh.drewN ?_ _ | with_reducible refine Fresh.setCell ?_ ?_ _ | with_reducible refine Fresh.trans ?_ (by assumption) | (simp; done) | (simp; omega)))⟩
theorem depthR_1 (hk : h.kind = 1) : Calls Tryd.prog 21 #[.agg #[.int .i64 h.kind, .int .i64 h.size, .int .i64 h.len, .bool h.flag, .string h.name, .slice p n cap]] w fun e w' => e = .returned (.int .i64 1) ∧ Fresh w w' := by
  have HKD := Lib.hid hk
  clear hk
  have kk0 : (h.kind == 0) = false := by rw [HKD.out]; rfl
  have kk4 : (h.kind == 4) = false := by rw [HKD.out]; rfl
  have kk5 : (h.kind == 5) = false := by rw [HKD.out]; rfl
  have kk7 : (h.kind == 7) = false := by rw [HKD.out]; rfl
  go_enter Tryd.func21, Tryd.ntmps21
  go_wp2_with fail
  go_returns
  exact ⟨rfl, (by (repeat' first | with_reducible exact Fresh.refl _ | with_reducible assumption | with_reducible refine Fresh.alloc ?_ _ _ | with_reducible refine Fresh.drew ?_ | with_reducible refine Fresh.drewN ?_ _ | with_reducible refine Fresh.setCell ?_ ?_ _ | with_reducible refine Fresh.trans ?_ (by assumption) | (simp; done) | (simp; omega)))⟩
theorem depthR_2 (hk : h.kind = 2) : Calls Tryd.prog 21 #[.agg #[.int .i64 h.kind, .int .i64 h.size, .int .i64 h.len, .bool h.flag, .string h.name, .slice p n cap]] w fun e w' => e = .returned (.int .i64 1) ∧ Fresh w w' := by
  have HKD := Lib.hid hk
  clear hk
  have kk0 : (h.kind == 0) = false := by rw [HKD.out]; rfl
  have kk4 : (h.kind == 4) = false := by rw [HKD.out]; rfl
  have kk5 : (h.kind == 5) = false := by rw [HKD.out]; rfl
  have kk7 : (h.kind == 7) = false := by rw [HKD.out]; rfl
  go_enter Tryd.func21, Tryd.ntmps21
  go_wp2_with fail
  go_returns
  exact ⟨rfl, (by (repeat' first | with_reducible exact Fresh.refl _ | with_reducible assumption | with_reducible refine Fresh.alloc ?_ _ _ | with_reducible refine Fresh.drew ?_ | with_reducible refine Fresh.drewN ?_ _ | with_reducible refine Fresh.setCell ?_ ?_ _ | with_reducible refine Fresh.trans ?_ (by assumption) | (simp; done) | (simp; omega)))⟩
theorem depthR_3 (hk : h.kind = 3) : Calls Tryd.prog 21 #[.agg #[.int .i64 h.kind, .int .i64 h.size, .int .i64 h.len, .bool h.flag, .string h.name, .slice p n cap]] w fun e w' => e = .returned (.int .i64 1) ∧ Fresh w w' := by
  have HKD := Lib.hid hk
  clear hk
  have kk0 : (h.kind == 0) = false := by rw [HKD.out]; rfl
  have kk4 : (h.kind == 4) = false := by rw [HKD.out]; rfl
  have kk5 : (h.kind == 5) = false := by rw [HKD.out]; rfl
  have kk7 : (h.kind == 7) = false := by rw [HKD.out]; rfl
  go_enter Tryd.func21, Tryd.ntmps21
  go_wp2_with fail
  go_returns
  exact ⟨rfl, (by (repeat' first | with_reducible exact Fresh.refl _ | with_reducible assumption | with_reducible refine Fresh.alloc ?_ _ _ | with_reducible refine Fresh.drew ?_ | with_reducible refine Fresh.drewN ?_ _ | with_reducible refine Fresh.setCell ?_ ?_ _ | with_reducible refine Fresh.trans ?_ (by assumption) | (simp; done) | (simp; omega)))⟩
theorem depthR_6 (hk : h.kind = 6) : Calls Tryd.prog 21 #[.agg #[.int .i64 h.kind, .int .i64 h.size, .int .i64 h.len, .bool h.flag, .string h.name, .slice p n cap]] w fun e w' => e = .returned (.int .i64 1) ∧ Fresh w w' := by
  have HKD := Lib.hid hk
  clear hk
  have kk0 : (h.kind == 0) = false := by rw [HKD.out]; rfl
  have kk4 : (h.kind == 4) = false := by rw [HKD.out]; rfl
  have kk5 : (h.kind == 5) = false := by rw [HKD.out]; rfl
  have kk7 : (h.kind == 7) = false := by rw [HKD.out]; rfl
  go_enter Tryd.func21, Tryd.ntmps21
  go_wp2_with fail
  go_returns
  exact ⟨rfl, (by (repeat' first | with_reducible exact Fresh.refl _ | with_reducible assumption | with_reducible refine Fresh.alloc ?_ _ _ | with_reducible refine Fresh.drew ?_ | with_reducible refine Fresh.drewN ?_ _ | with_reducible refine Fresh.setCell ?_ ?_ _ | with_reducible refine Fresh.trans ?_ (by assumption) | (simp; done) | (simp; omega)))⟩
variable (hf : Fresh w0 w) (hks : Kids ok w0 ks p n cap)
include hf hks
set_option maxRecDepth 100000 in
set_option maxHeartbeats 4000000 in
theorem depthR_4 (hk : h.kind = 4) (D : Nat) (hD : D ≤ 1000) (kid : ∀ (X : World) (p' : Option Addr) (n' cap' : Nat), Fresh w0 X → Kids ok w0 ks.kids p' n' cap' → Calls Tryd.prog 21 #[.agg #[.int .i64 ks.hd.kind, .int .i64 ks.hd.size, .int .i64 ks.hd.len, .bool ks.hd.flag, .string ks.hd.name, .slice p' n' cap']] X fun e w' => e = .returned (.int .i64 D) ∧ Fresh X w') :
    Calls Tryd.prog 21 #[.agg #[.int .i64 h.kind, .int .i64 h.size, .int .i64 h.len, .bool h.flag, .string h.name, .slice p n cap]] w fun e w' => e = .returned (.int .i64 (D + 1 : Int)) ∧ Fresh w w' := by
  have HKD := Lib.hid hk
  have HK := Lib.hid hks
  have HF := Lib.hid hf
  have KID := Lib.hid kid
  clear hk hks hf kid
  have kk0 : (h.kind == 0) = false := by rw [HKD.out]; rfl
  have kk4 : (h.kind == 4) = true := by rw [HKD.out]; rfl
  have kk5 : (h.kind == 5) = false := by rw [HKD.out]; rfl
  have kk7 : (h.kind == 7) = false := by rw [HKD.out]; rfl
  go_enter Tryd.func21, Tryd.ntmps21
  go_wp2_with fail
  go_at_call 50; refine (pointer_any h ks p n cap _ w0 (HF.out.trans (by (repeat' first | with_reducible exact Fresh.refl _ | with_reducible assumption | with_reducible refine Fresh.alloc ?_ _ _ | with_reducible refine Fresh.drew ?_ | with_reducible refine Fresh.drewN ?_ _ | with_reducible refine Fresh.setCell ?_ ?_ _ | with_reducible refine Fresh.trans ?_ (by assumption) | (simp; done) | (simp; omega)))) HK.out).mono ?_; rintro e w1 ⟨⟨p1, n1, cap1, rfl, hk1⟩, h1⟩; have HK1 := Lib.hid hk1; clear hk1
  have H1 := Lib.hid (show Fresh w w1 from (by (repeat' first | with_reducible exact Fresh.refl _ | with_reducible assumption | with_reducible refine Fresh.alloc ?_ _ _ | with_reducible refine Fresh.drew ?_ | with_reducible refine Fresh.drewN ?_ _ | with_reducible refine Fresh.setCell ?_ ?_ _ | with_reducible refine Fresh.trans ?_ (by assumption) | (simp; done) | (simp; omega))))
  clear h1
  go_wp2_with fail
  go_at_call 21; refine (KID.out _ p1 n1 cap1 (HF.out.trans (H1.out.trans (by (repeat' first | with_reducible exact Fresh.refl _ | with_reducible assumption | with_reducible refine Fresh.alloc ?_ _ _ | with_reducible refine Fresh.drew ?_ | with_reducible refine Fresh.drewN ?_ _ | with_reducible refine Fresh.setCell ?_ ?_ _ | with_reducible refine Fresh.trans ?_ (by assumption) | (simp; done) | (simp; omega))))) HK1.out).mono ?_; rintro e w2 ⟨rfl, h2⟩
  go_wp2_with fail
  go_returns
  exact ⟨rfl, H1.out.trans (by (repeat' first | with_reducible exact Fresh.refl _ | with_reducible assumption | with_reducible refine Fresh.alloc ?_ _ _ | with_reducible refine Fresh.drew ?_ | with_reducible refine Fresh.drewN ?_ _ | with_reducible refine Fresh.setCell ?_ ?_ _ | with_reducible refine Fresh.trans ?_ (by assumption) | (simp; done) | (simp; omega)))⟩
set_option maxRecDepth 100000 in
set_option maxHeartbeats 4000000 in
theorem depthR_5 (hk : h.kind = 5) (D : Nat) (hD : D ≤ 1000) (kid : ∀ (X : World) (p' : Option Addr) (n' cap' : Nat), Fresh w0 X → Kids ok w0 ks.kids p' n' cap' → Calls Tryd.prog 21 #[.agg #[.int .i64 ks.hd.kind, .int .i64 ks.hd.size, .int .i64 ks.hd.len, .bool ks.hd.flag, .string ks.hd.name, .slice p' n' cap']] X fun e w' => e = .returned (.int .i64 D) ∧ Fresh X w') :
    Calls Tryd.prog 21 #[.agg #[.int .i64 h.kind, .int .i64 h.size, .int .i64 h.len, .bool h.flag, .string h.name, .slice p n cap]] w fun e w' => e = .returned (.int .i64 (D + 1 : Int)) ∧ Fresh w w' := by
  have HKD := Lib.hid hk
  have HK := Lib.hid hks
  have HF := Lib.hid hf
  have KID := Lib.hid kid
  clear hk hks hf kid
  have kk0 : (h.kind == 0) = false := by rw [HKD.out]; rfl
  have kk4 : (h.kind == 4) = false := by rw [HKD.out]; rfl
  have kk5 : (h.kind == 5) = true := by rw [HKD.out]; rfl
  have kk7 : (h.kind == 7) = false := by rw [HKD.out]; rfl
  go_enter Tryd.func21, Tryd.ntmps21
  go_wp2_with fail
  go_at_call 51; refine (array_any h ks p n cap _ w0 (HF.out.trans (by (repeat' first | with_reducible exact Fresh.refl _ | with_reducible assumption | with_reducible refine Fresh.alloc ?_ _ _ | with_reducible refine Fresh.drew ?_ | with_reducible refine Fresh.drewN ?_ _ | with_reducible refine Fresh.setCell ?_ ?_ _ | with_reducible refine Fresh.trans ?_ (by assumption) | (simp; done) | (simp; omega)))) HK.out).mono ?_; rintro e w1 ⟨⟨p1, n1, cap1, rfl, hk1⟩, h1⟩; have HK1 := Lib.hid hk1; clear hk1
  have H1 := Lib.hid (show Fresh w w1 from (by (repeat' first | with_reducible exact Fresh.refl _ | with_reducible assumption | with_reducible refine Fresh.alloc ?_ _ _ | with_reducible refine Fresh.drew ?_ | with_reducible refine Fresh.drewN ?_ _ | with_reducible refine Fresh.setCell ?_ ?_ _ | with_reducible refine Fresh.trans ?_ (by assumption) | (simp; done) | (simp; omega))))
  clear h1
  go_wp2_with fail
  go_at_call 21; refine (KID.out _ p1 n1 cap1 (HF.out.trans (H1.out.trans (by (repeat' first | with_reducible exact Fresh.refl _ | with_reducible assumption | with_reducible refine Fresh.alloc ?_ _ _ | with_reducible refine Fresh.drew ?_ | with_reducible refine Fresh.drewN ?_ _ | with_reducible refine Fresh.setCell ?_ ?_ _ | with_reducible refine Fresh.trans ?_ (by assumption) | (simp; done) | (simp; omega))))) HK1.out).mono ?_; rintro e w2 ⟨rfl, h2⟩
  go_wp2_with fail
  go_returns
  exact ⟨rfl, H1.out.trans (by (repeat' first | with_reducible exact Fresh.refl _ | with_reducible assumption | with_reducible refine Fresh.alloc ?_ _ _ | with_reducible refine Fresh.drew ?_ | with_reducible refine Fresh.drewN ?_ _ | with_reducible refine Fresh.setCell ?_ ?_ _ | with_reducible refine Fresh.trans ?_ (by assumption) | (simp; done) | (simp; omega)))⟩
set_option maxRecDepth 100000 in
set_option maxHeartbeats 4000000 in
theorem depthR_7 (hk : h.kind = 7) (D : Nat) (hall : AllDep 21 ks.rest) (hD : max D ks.rest.dep ≤ 1000) (kid : ∀ (X : World) (p' : Option Addr) (n' cap' : Nat), Fresh w0 X → Kids ok w0 ks.kids p' n' cap' → Calls Tryd.prog 21 #[.agg #[.int .i64 ks.hd.kind, .int .i64 ks.hd.size, .int .i64 ks.hd.len, .bool ks.hd.flag, .string ks.hd.name, .slice p' n' cap']] X fun e w' => e = .returned (.int .i64 D) ∧ Fresh X w') :
    Calls Tryd.prog 21 #[.agg #[.int .i64 h.kind, .int .i64 h.size, .int .i64 h.len, .bool h.flag, .string h.name, .slice p n cap]] w fun e w' => e = .returned (.int .i64 ((max D ks.rest.dep : Nat) + 1 : Int)) ∧ Fresh w w' := by
  have HKD := Lib.hid hk
  have HK := Lib.hid hks
  have HF := Lib.hid hf
  have KID := Lib.hid kid
  have HAL := Lib.hid hall
  have HD := Lib.hid hD
  clear hk hks hf kid hall hD
  have kk0 : (h.kind == 0) = false := by rw [HKD.out]; rfl
  have kk4 : (h.kind == 4) = false := by rw [HKD.out]; rfl
  have kk5 : (h.kind == 5) = false := by rw [HKD.out]; rfl
  have kk7 : (h.kind == 7) = true := by rw [HKD.out]; rfl
  go_enter Tryd.func21, Tryd.ntmps21
  go_wp2_with fail
  go_at_call 52; refine (function_any h ks p n cap _ w0 (HF.out.trans (by (repeat' first | with_reducible exact Fresh.refl _ | with_reducible assumption | with_reducible refine Fresh.alloc ?_ _ _ | with_reducible refine Fresh.drew ?_ | with_reducible refine Fresh.drewN ?_ _ | with_reducible refine Fresh.setCell ?_ ?_ _ | with_reducible refine Fresh.trans ?_ (by assumption) | (simp; done) | (simp; omega)))) HK.out).mono ?_; rintro e w1 ⟨⟨p1, n1, cap1, p2, n2, cap2, rfl, hk1, hk2⟩, h1⟩; have HK1 := Lib.hid hk1; have HK2 := Lib.hid hk2; clear hk1 hk2
  have H1 := Lib.hid (show Fresh w w1 from (by (repeat' first | with_reducible exact Fresh.refl _ | with_reducible assumption | with_reducible refine Fresh.alloc ?_ _ _ | with_reducible refine Fresh.drew ?_ | with_reducible refine Fresh.drewN ?_ _ | with_reducible refine Fresh.setCell ?_ ?_ _ | with_reducible refine Fresh.trans ?_ (by assumption) | (simp; done) | (simp; omega))))
  clear h1 kk0 kk4 kk5 kk7
  go_wp2_with fail
  have T6 := Lib.hid (Blk.new w1 #[.int .i64 ks.hd.kind, .int .i64 ks.hd.size, .int .i64 ks.hd.len, .bool ks.hd.flag, .string ks.hd.name, .slice p1 n1 cap1, .slice p2 n2 cap2] 85)
  go_at_call 21; refine (KID.out _ p1 n1 cap1 (HF.out.trans (H1.out.trans (by (repeat' first | with_reducible exact Fresh.refl _ | with_reducible assumption | with_reducible refine Fresh.alloc ?_ _ _ | with_reducible refine Fresh.drew ?_ | with_reducible refine Fresh.drewN ?_ _ | with_reducible refine Fresh.setCell ?_ ?_ _ | with_reducible refine Fresh.trans ?_ (by assumption) | (simp; done) | (simp; omega))))) HK1.out).mono ?_; rintro e w2 ⟨rfl, h2⟩
  have T6 := Lib.hid (T6.out.fresh h2)
  have H2 := Lib.hid (H1.out.trans (show Fresh w1 w2 from (by (repeat' first | with_reducible exact Fresh.refl _ | with_reducible assumption | with_reducible refine Fresh.alloc ?_ _ _ | with_reducible refine Fresh.drew ?_ | with_reducible refine Fresh.drewN ?_ _ | with_reducible refine Fresh.setCell ?_ ?_ _ | with_reducible refine Fresh.trans ?_ (by assumption) | (simp; done) | (simp; omega)))))
  clear h2
  have HN := Lib.hid HK2.out.1
  have hcap : cap2 ≤ 9223372036854775807 := HK2.out.2.2.1
  have hnc : n2 ≤ cap2 := HK2.out.2.1
  obtain ⟨xs, hx, hxl, hxp⟩ := HK2.out.cells
  have HP1 : Hid (n2 = 0 ∨ ∃ B off, p2 = some ⟨B, off, none⟩) := Lib.hid (by
    rcases hxp with ⟨-, h, -⟩ | ⟨B, off, e, -⟩
    · exact Or.inl h
    · exact Or.inr ⟨B, off, e⟩)
  have R1 : Hid (RestAt w0 p2 0 xs) := Lib.hid (by
    intro B off e j u hu
    rcases hxp with ⟨e', -⟩ | ⟨B', off', e', h⟩
    · rw [e] at e'; cases e'
    · rw [e] at e'; cases e'
      have := h j u hu
      rw [Go.WideShapes.add_plain] at this
      simpa using this)
  have HX := Lib.hid hx
  clear hx hxl hxp
  generalize hM : max D ks.rest.dep = M at *
  have HM := Lib.hid hM
  clear hM
  go_wp2_with fail
  go_loopw [6, 7] (fun v i wr => ∃ (k d : Nat) (r1 : Tys) (zs1 : List Value), k ≤ n2 ∧ i = .int .i64 k ∧ v = .int .i64 d ∧ Hid (M = max d r1.dep ∧ r1.length = n2 - k ∧ AllDep 21 r1) ∧ Hid (r1.cells ok w0 zs1 ∧ RestAt w0 p2 k zs1) ∧ Hid (Fresh w2 wr)) (fun _ i _ => n2 - (intOf i).toNat)
  case atStart => exact ⟨0, D, ks.rest, xs, by omega, rfl, rfl, Lib.hid ⟨HM.out.symm, HN.out.symm, HAL.out⟩, Lib.hid ⟨HX.out, R1.out⟩, Lib.hid (Fresh.refl w2)⟩
  case round =>
    obtain ⟨k, d, r1, zs1, hk, rfl, rfl, HI, HC, FW⟩ := hrel
    have g6 := (T6.out.fresh FW.out).1 6 _ rfl
    have gz := cell_lt g6
    simp only at gz
    by_cases hlt : k < n2
    · cases r1 with
      | nil => exfalso; have := HI.out.2.1; simp [Tys.length] at this; omega
      | cons h1 k1 r1' =>
        obtain ⟨⟨q1, m1, c1, zs1', rfl, hk1, hr1⟩, ha1⟩ := HC.out
        obtain ⟨B1, off1, rfl⟩ := HP1.out.resolve_left (by omega)
        obtain ⟨a0, a1, a2, a3, a4, a5, ar⟩ := six_at (ha1 B1 off1 rfl)
        have S1 : Hid (RestAt w0 (some ⟨B1, off1, none⟩) (k + 1) zs1') := Lib.hid (fun B off e j u hu => by
          cases e
          have := ar j u hu
          rwa [show off1 + k * 6 + 6 + j = off1 + (k + 1) * 6 + j by omega] at this)
        have FX := HF.out.trans (H2.out.trans FW.out)
        have a0 := FX.at' a0
        have a1 := FX.at' a1
        have a2 := FX.at' a2
        have a3 := FX.at' a3
        have a4 := FX.at' a4
        have a5 := FX.at' a5
        have az := cell_lt a0
        simp only at az
        have CS : Hid (∀ Y, Fresh w0 Y → Calls Tryd.prog 21 #[.agg #[.int .i64 h1.kind, .int .i64 h1.size, .int .i64 h1.len, .bool h1.flag, .string h1.name, .slice q1 m1 c1]] Y fun e w' => e = .returned (.int .i64 (depT h1 k1.dep)) ∧ Fresh Y w') := Lib.hid (fun Y hY => HI.out.2.2.1 ok q1 m1 c1 w0 Y hY hk1)
        have HI2 : Hid (M = max (max d (depT h1 k1.dep)) r1'.dep ∧ r1'.length = n2 - (k + 1) ∧ AllDep 21 r1') := Lib.hid (by
          obtain ⟨i1, i2, i3⟩ := HI.out
          refine ⟨by rw [i1, Tys.dep]; omega, ?_, i3.2⟩
          simp [Tys.length] at i2
          omega)
        have HC2 := Lib.hid hr1
        have hlt' : (k : Int) < (n2 : Int) := by omega
        clear ar ha1 hk1 hr1 HI HC FX
        generalize depT h1 k1.dep = t at *
        have hmx : max (d : Int) (t : Int) = ((max d t : Nat) : Int) := by omega
        go_wp2_with fail
        go_at_call 21; refine (CS.out _ (HF.out.trans (H2.out.trans (FW.out.trans (by (repeat' first | with_reducible exact Fresh.refl _ | with_reducible assumption | with_reducible refine Fresh.alloc ?_ _ _ | with_reducible refine Fresh.drew ?_ | with_reducible refine Fresh.drewN ?_ _ | with_reducible refine Fresh.setCell ?_ ?_ _ | with_reducible refine Fresh.trans ?_ (by assumption) | (simp; done) | (simp; omega))))))).mono ?_; rintro e w3 ⟨rfl, h3⟩
        have F1 := Lib.hid (FW.out.trans (show Fresh wr w3 from (by (repeat' first | with_reducible exact Fresh.refl _ | with_reducible assumption | with_reducible refine Fresh.alloc ?_ _ _ | with_reducible refine Fresh.drew ?_ | with_reducible refine Fresh.drewN ?_ _ | with_reducible refine Fresh.setCell ?_ ?_ _ | with_reducible refine Fresh.trans ?_ (by assumption) | (simp; done) | (simp; omega)))))
        clear a0 a1 a2 a3 a4 a5 az h3 CS g6 gz
        go_wp2_with fail
        go_roundw
        case rel => exact ⟨k + 1, max d t, r1', zs1', by omega, by go_num, by first | rfl | (rw [hmx]; done) | (congr 1; omega) | skip, HI2, Lib.hid ⟨HC2.out, S1.out⟩, F1⟩
        case measure => simp [intOf]; omega
    · obtain rfl : k = n2 := by omega
      have hR : M = d := by
        obtain ⟨i1, i2, -⟩ := HI.out
        cases r1 with
        | nil => simpa [Tys.dep] using i1
        | cons _ _ _ => simp [Tys.length] at i2
      subst hR
      have hM := HD.out
      have hMM := HM.out
      go_wp2_with fail
      go_returns
      exact ⟨ret_int (by omega), H2.out.trans FW.out⟩
end
theorem dep1 {h : Hd} (hk : h.kind = 1 ∨ h.kind = 2 ∨ h.kind = 3 ∨ h.kind = 6) (D : Nat) : depT h D = 1 := by
  unfold depT
  rw [if_neg (by omega), if_neg (by omega)]
theorem depN {h : Hd} (hk : h.kind = 4 ∨ h.kind = 5 ∨ h.kind = 7) (D : Nat) : depT h D = D + 1 := by
  unfold depT
  rw [if_neg (by omega), if_pos hk]
theorem dep0 {h : Hd} (hk : h.kind = 0) (D : Nat) : depT h D = 0 := by
  unfold depT
  rw [if_pos hk]
theorem depth_of (a : Hd) (ks : Tys) (hwa : WFh a ks) (hd : depT a ks.dep ≤ 1000) (hall : AllDep 20 ks) : DepSpec 20 a ks := by
  intro ok p n cap w0 w hf hks
  rcases hwa with ⟨rfl, rfl⟩ | ⟨rfl, rfl⟩ | ⟨s, u, rfl, rfl⟩ | ⟨rfl, rfl⟩ | ⟨rfl, hl⟩ | ⟨l, rfl, hl⟩ | ⟨nm, u, rfl, rfl⟩ | ⟨rfl, hl⟩
  · rw [dep0 rfl]; exact depth_0 _ p n cap w rfl
  · rw [dep1 (Or.inl rfl)]; exact depth_1 _ p n cap w rfl
  · rw [dep1 (Or.inr (Or.inl rfl))]; exact depth_num _ p n cap w rfl
  · rw [dep1 (Or.inr (Or.inr (Or.inl rfl)))]; exact depth_3 _ p n cap w rfl
  · obtain ⟨a1, k1, rfl⟩ := len1 hl
    rw [depN (Or.inl rfl)] at hd ⊢
    simp only [Tys.dep] at hd ⊢
    have := depth_up4 (hd1 4) (.cons a1 k1 .nil) p n cap w0 w hf hks (depT a1 k1.dep) (by omega) (by omega) rfl (fun X p' n' c' hX hk => hall.1 ok p' n' c' w0 X hX hk)
    refine this.mono ?_
    rintro e w' ⟨rfl, h⟩
    exact ⟨ret_int (by omega), h⟩
  · obtain ⟨a1, k1, rfl⟩ := len1 hl
    rw [depN (Or.inr (Or.inl rfl))] at hd ⊢
    simp only [Tys.dep] at hd ⊢
    have := depth_up5 (arrHd l) (.cons a1 k1 .nil) p n cap w0 w hf hks (depT a1 k1.dep) (by omega) (by omega) rfl (fun X p' n' c' hX hk => hall.1 ok p' n' c' w0 X hX hk)
    refine this.mono ?_
    rintro e w' ⟨rfl, h⟩
    exact ⟨ret_int (by omega), h⟩
  · rw [dep1 (Or.inr (Or.inr (Or.inr rfl)))]; exact depth_6 _ p n cap w rfl
  · obtain ⟨a1, k1, r1, rfl⟩ := len_pos hl
    rw [depN (Or.inr (Or.inr rfl))] at hd ⊢
    simp only [Tys.dep] at hd ⊢
    have := depth_7 (hd1 7) (.cons a1 k1 r1) p n cap w0 w hf hks rfl (depT a1 k1.dep) hall.2 (by simp only [Tys.rest]; omega) (fun X p' n' c' hX hk => hall.1 ok p' n' c' w0 X hX hk)
    refine this.mono ?_
    rintro e w' ⟨rfl, h⟩
    exact ⟨ret_int (by simp only [Tys.rest]; omega), h⟩
theorem depthR_of (a : Hd) (ks : Tys) (hwa : WFh a ks) (hd : depT a ks.dep ≤ 1000) (hall : AllDep 21 ks) : DepSpec 21 a ks := by
  intro ok p n cap w0 w hf hks
  rcases hwa with ⟨rfl, rfl⟩ | ⟨rfl, rfl⟩ | ⟨s, u, rfl, rfl⟩ | ⟨rfl, rfl⟩ | ⟨rfl, hl⟩ | ⟨l, rfl, hl⟩ | ⟨nm, u, rfl, rfl⟩ | ⟨rfl, hl⟩
  · rw [dep0 rfl]; exact depthR_0 _ p n cap w rfl
  · rw [dep1 (Or.inl rfl)]; exact depthR_1 _ p n cap w rfl
  · rw [dep1 (Or.inr (Or.inl rfl))]; exact depthR_2 _ p n cap w rfl
  · rw [dep1 (Or.inr (Or.inr (Or.inl rfl)))]; exact depthR_3 _ p n cap w rfl
  · obtain ⟨a1, k1, rfl⟩ := len1 hl
    rw [depN (Or.inl rfl)] at hd ⊢
    simp only [Tys.dep] at hd ⊢
    have := depthR_4 (hd1 4) (.cons a1 k1 .nil) p n cap w0 w hf hks rfl (depT a1 k1.dep) (by omega) (fun X p' n' c' hX hk => hall.1 ok p' n' c' w0 X hX hk)
    refine this.mono ?_
    rintro e w' ⟨rfl, h⟩
    exact ⟨ret_int (by omega), h⟩
  · obtain ⟨a1, k1, rfl⟩ := len1 hl
    rw [depN (Or.inr (Or.inl rfl))] at hd ⊢
    simp only [Tys.dep] at hd ⊢
    have := depthR_5 (arrHd l) (.cons a1 k1 .nil) p n cap w0 w hf hks rfl (depT a1 k1.dep) (by omega) (fun X p' n' c' hX hk => hall.1 ok p' n' c' w0 X hX hk)
    refine this.mono ?_
    rintro e w' ⟨rfl, h⟩
    exact ⟨ret_int (by omega), h⟩
  · rw [dep1 (Or.inr (Or.inr (Or.inr rfl)))]; exact depthR_6 _ p n cap w rfl
  · obtain ⟨a1, k1, r1, rfl⟩ := len_pos hl
    rw [depN (Or.inr (Or.inr rfl))] at hd ⊢
    simp only [Tys.dep] at hd ⊢
    have := depthR_7 (hd1 7) (.cons a1 k1 r1) p n cap w0 w hf hks rfl (depT a1 k1.dep) hall.2 (by simp only [Tys.rest]; omega) (fun X p' n' c' hX hk => hall.1 ok p' n' c' w0 X hX hk)
    refine this.mono ?_
    rintro e w' ⟨rfl, h⟩
    exact ⟨ret_int (by simp only [Tys.rest]; omega), h⟩
theorem allDep : ∀ ks : Tys, ks.wf → ks.dep ≤ 999 → AllDep 20 ks ∧ AllDep 21 ks
  | .nil, _, _ => ⟨trivial, trivial⟩
  | .cons h k r, hw, hd => by
    simp only [Tys.dep] at hd
    have hk : depT h k.dep ≤ 1000 := by omega
    have hk2 : k.dep ≤ 999 := by
      by_cases h4 : h.kind = 4 ∨ h.kind = 5 ∨ h.kind = 7
      · have := depN h4 k.dep; omega
      · rcases hw.1.1 with ⟨rfl, rfl⟩ | ⟨rfl, rfl⟩ | ⟨s, u, rfl, rfl⟩ | ⟨rfl, rfl⟩ | ⟨rfl, hl⟩ | ⟨l, rfl, hl⟩ | ⟨nm, u, rfl, rfl⟩ | ⟨rfl, hl⟩
        all_goals first | (simp [Tys.dep]; done) | (exfalso; apply h4; simp [hd1, arrHd])
    obtain ⟨i1, i2⟩ := allDep k hw.1.2 hk2
    obtain ⟨j1, j2⟩ := allDep r hw.2 (by omega)
    exact ⟨⟨depth_of h k hw.1.1 hk i1, j1⟩, ⟨depthR_of h k hw.1.1 hk i2, j2⟩⟩
theorem depth_any (h : Hd) (ks : Tys) (hwa : WFh h ks) (hw : ks.wf) (hd : depT h ks.dep ≤ 999) : DepSpec 20 h ks ∧ DepSpec 21 h ks := by
  obtain ⟨⟨h1, -⟩, ⟨h2, -⟩⟩ := allDep (.cons h ks .nil) ⟨⟨hwa, hw⟩, trivial⟩ (by simp only [Tys.dep]; omega)
  exact ⟨h1, h2⟩
end Go.Proofs.YteiomcbphbbpkaaDoor
/- How the program writes a type, from how it writes its parts. -/
namespace Go.Proofs.YteiomcbphbbpkaaDoor
set_option linter.unusedSimpArgs false
set_option linter.unusedVariables false
set_option linter.unusedSectionVars false
open Go.RowKit
attribute [local go_sem] as_98_98 as_98_62 as_98_65 as_98_67 as_98_71 as_98_69 as_98_85 as_62_98 as_62_62 as_62_65 as_62_67 as_62_71 as_62_69 as_62_85 as_65_98 as_65_62 as_65_65 as_65_67 as_65_71 as_65_69 as_65_85 as_67_98 as_67_62 as_67_65 as_67_67 as_67_71 as_67_69 as_67_85 as_71_98 as_71_62 as_71_65 as_71_67 as_71_71 as_71_69 as_71_85 as_69_98 as_69_62 as_69_65 as_69_67 as_69_71 as_69_69 as_69_85 as_85_98 as_85_62 as_85_65 as_85_67 as_85_71 as_85_69 as_85_85 as_nil_98 as_nil_62 as_nil_65 as_nil_67 as_nil_71 as_nil_69 as_nil_85

def Tab (w : World) : Prop := Lib.TabBelow Tryd.prog w.heap.size w "internal/strconv.uint64pow10" .u64 Lib.pow10Tab
theorem Tab.at {w w' : World} (h : Tab w) (hf : Fresh w w') : Lib.TabIs Tryd.prog w' "internal/strconv.uint64pow10" .u64 Lib.pow10Tab := (h.on hf.below).here
/-- write of this type behind what was written. -/
def WrSpec (h : Hd) (ks : Tys) : Prop := ∀ (ok : Nat → Prop) (p : Option Addr) (n cap : Nat) (w0 X : World) (b : Nat) (bs : List UInt8), Tab w0 → Wro w0 b bs X X → Kids ok w0 ks p n cap → bs.length + (txtT h ks.txts).length ≤ 225179981361972 →
  Calls Tryd.prog 55 #[.pointer (some ⟨b, 0, none⟩), .agg #[.int .i64 h.kind, .int .i64 h.size, .int .i64 h.len, .bool h.flag, .string h.name, .slice p n cap]] X fun e w' => e = .returned (.tuple #[]) ∧ Wro w0 b (bs ++ txtT h ks.txts) X w'
def AllWr : Tys → Prop
  | .nil => True
  | .cons h k r => WrSpec h k ∧ AllWr r
theorem fresh_grow (w : World) (k : Nat) (os : Array Obj) : Fresh w (Sort.grow (w.drewN k) os) := ⟨below_grown_sl w.heap.size w k os (Nat.le_refl _)⟩
theorem itoa_any (n : Int) (h : -9223372036854775808 ≤ n ∧ n ≤ 9223372036854775807) {w0 w : World} (ht : Tab w0) (hf : Fresh w0 w) : Calls Tryd.prog 85 #[.int .i64 n] w fun e w' => e = .returned (.string ⟨(Lib.itoa n).toArray⟩) ∧ Fresh w w' := by
  refine (Tryd.strconv_Itoa n h.1 h.2 w (ht.at hf)).mono ?_
  rintro e w' ⟨he, k, os, rfl⟩
  exact ⟨he, fresh_grow w k os⟩
section
variable {ok : Nat → Prop} (h : Hd) (ks : Tys) (p : Option Addr) (n cap : Nat) (w0 X : World) (b : Nat) (bs : List UInt8) (H : Wro w0 b bs X X)
include H
theorem write_1 (hk : h.kind = 1) (hl : bs.length + 4 ≤ 225179981361972) : Calls Tryd.prog 55 #[.pointer (some ⟨b, 0, none⟩), .agg #[.int .i64 h.kind, .int .i64 h.size, .int .i64 h.len, .bool h.flag, .string h.name, .slice p n cap]] X fun e w' => e = .returned (.tuple #[]) ∧ Wro w0 b (bs ++ [118, 111, 105, 100]) X w' := by
  have HKD := Lib.hid hk
  have HH := Lib.hid H
  have HL := Lib.hid hl
  clear hk H hl
  go_enter Tryd.func55, Tryd.ntmps55
  go_wp2_with fail
  go_at_call 43; refine (view1 h p n cap _ HKD.out).mono ?_; rintro e w1 ⟨rfl, h1⟩
  have H1 := Lib.hid (show Fresh X w1 from (by (repeat' first | with_reducible exact Fresh.refl _ | with_reducible assumption | with_reducible refine Fresh.alloc ?_ _ _ | with_reducible refine Fresh.drew ?_ | with_reducible refine Fresh.drewN ?_ _ | with_reducible refine Fresh.setCell ?_ ?_ _ | with_reducible refine Fresh.trans ?_ (by assumption) | (simp; done) | (simp; omega))))
  clear h1
  go_wp2_with fail
  go_at_call 82; refine (str_w (w := X) ⟨#[118, 111, 105, 100]⟩ (HH.out.then (H1.out.trans (by (repeat' first | with_reducible exact Fresh.refl _ | with_reducible assumption | with_reducible refine Fresh.alloc ?_ _ _ | with_reducible refine Fresh.drew ?_ | with_reducible refine Fresh.drewN ?_ _ | with_reducible refine Fresh.setCell ?_ ?_ _ | with_reducible refine Fresh.trans ?_ (by assumption) | (simp; done) | (simp; omega))))) (by have := HL.out; simp; omega)).mono ?_; rintro e w3 ⟨rfl, b3, -⟩
  go_wp2_with fail
  go_end0
  exact ⟨rfl, b3⟩
theorem write_3 (hk : h.kind = 3) (hl : bs.length + 6 ≤ 225179981361972) : Calls Tryd.prog 55 #[.pointer (some ⟨b, 0, none⟩), .agg #[.int .i64 h.kind, .int .i64 h.size, .int .i64 h.len, .bool h.flag, .string h.name, .slice p n cap]] X fun e w' => e = .returned (.tuple #[]) ∧ Wro w0 b (bs ++ [100, 111, 117, 98, 108, 101]) X w' := by
  have HKD := Lib.hid hk
  have HH := Lib.hid H
  have HL := Lib.hid hl
  clear hk H hl
  go_enter Tryd.func55, Tryd.ntmps55
  go_wp2_with fail
  go_at_call 43; refine (view3 h p n cap _ HKD.out).mono ?_; rintro e w1 ⟨rfl, h1⟩
  have H1 := Lib.hid (show Fresh X w1 from (by (repeat' first | with_reducible exact Fresh.refl _ | with_reducible assumption | with_reducible refine Fresh.alloc ?_ _ _ | with_reducible refine Fresh.drew ?_ | with_reducible refine Fresh.drewN ?_ _ | with_reducible refine Fresh.setCell ?_ ?_ _ | with_reducible refine Fresh.trans ?_ (by assumption) | (simp; done) | (simp; omega))))
  clear h1
  go_wp2_with fail
  go_at_call 82; refine (str_w (w := X) ⟨#[100, 111, 117, 98, 108, 101]⟩ (HH.out.then (H1.out.trans (by (repeat' first | with_reducible exact Fresh.refl _ | with_reducible assumption | with_reducible refine Fresh.alloc ?_ _ _ | with_reducible refine Fresh.drew ?_ | with_reducible refine Fresh.drewN ?_ _ | with_reducible refine Fresh.setCell ?_ ?_ _ | with_reducible refine Fresh.trans ?_ (by assumption) | (simp; done) | (simp; omega))))) (by have := HL.out; simp; omega)).mono ?_; rintro e w3 ⟨rfl, b3, -⟩
  go_wp2_with fail
  go_end0
  exact ⟨rfl, b3⟩
theorem write_0 (hk : h.kind = 0) (hl : bs.length + 1 ≤ 225179981361972) : Calls Tryd.prog 55 #[.pointer (some ⟨b, 0, none⟩), .agg #[.int .i64 h.kind, .int .i64 h.size, .int .i64 h.len, .bool h.flag, .string h.name, .slice p n cap]] X fun e w' => e = .returned (.tuple #[]) ∧ Wro w0 b (bs ++ [63]) X w' := by
  have HKD := Lib.hid hk
  have HH := Lib.hid H
  have HL := Lib.hid hl
  clear hk H hl
  go_enter Tryd.func55, Tryd.ntmps55
  go_wp2_with fail
  go_at_call 43; refine (view0 h p n cap _ (by have := HKD.out; omega)).mono ?_; rintro e w1 ⟨rfl, h1⟩
  have H1 := Lib.hid (show Fresh X w1 from (by (repeat' first | with_reducible exact Fresh.refl _ | with_reducible assumption | with_reducible refine Fresh.alloc ?_ _ _ | with_reducible refine Fresh.drew ?_ | with_reducible refine Fresh.drewN ?_ _ | with_reducible refine Fresh.setCell ?_ ?_ _ | with_reducible refine Fresh.trans ?_ (by assumption) | (simp; done) | (simp; omega))))
  clear h1
  go_wp2_with fail
  go_at_call 82; refine (str_w (w := X) ⟨#[63]⟩ (HH.out.then (H1.out.trans (by (repeat' first | with_reducible exact Fresh.refl _ | with_reducible assumption | with_reducible refine Fresh.alloc ?_ _ _ | with_reducible refine Fresh.drew ?_ | with_reducible refine Fresh.drewN ?_ _ | with_reducible refine Fresh.setCell ?_ ?_ _ | with_reducible refine Fresh.trans ?_ (by assumption) | (simp; done) | (simp; omega))))) (by have := HL.out; simp; omega)).mono ?_; rintro e w3 ⟨rfl, b3, -⟩
  go_wp2_with fail
  go_end0
  exact ⟨rfl, b3⟩
theorem write_2 (hk : h.kind = 2) (hl : bs.length + (numTxt h.size h.flag).length ≤ 225179981361972) : Calls Tryd.prog 55 #[.pointer (some ⟨b, 0, none⟩), .agg #[.int .i64 h.kind, .int .i64 h.size, .int .i64 h.len, .bool h.flag, .string h.name, .slice p n cap]] X fun e w' => e = .returned (.tuple #[]) ∧ Wro w0 b (bs ++ numTxt h.size h.flag) X w' := by
  have HKD := Lib.hid hk
  have HH := Lib.hid H
  have HL := Lib.hid hl
  clear hk H hl
  go_enter Tryd.func55, Tryd.ntmps55
  go_wp2_with fail
  go_at_call 43; refine (view2 h p n cap _ HKD.out).mono ?_; rintro e w1 ⟨rfl, h1⟩
  have H1 := Lib.hid (show Fresh X w1 from (by (repeat' first | with_reducible exact Fresh.refl _ | with_reducible assumption | with_reducible refine Fresh.alloc ?_ _ _ | with_reducible refine Fresh.drew ?_ | with_reducible refine Fresh.drewN ?_ _ | with_reducible refine Fresh.setCell ?_ ?_ _ | with_reducible refine Fresh.trans ?_ (by assumption) | (simp; done) | (simp; omega))))
  clear h1
  go_wp2_with fail
  go_at_call 83; refine (numberText_any h.size h.flag _).mono ?_; rintro e w2 ⟨rfl, h2⟩
  have H2 := Lib.hid (show Fresh X w2 from H1.out.trans (by (repeat' first | with_reducible exact Fresh.refl _ | with_reducible assumption | with_reducible refine Fresh.alloc ?_ _ _ | with_reducible refine Fresh.drew ?_ | with_reducible refine Fresh.drewN ?_ _ | with_reducible refine Fresh.setCell ?_ ?_ _ | with_reducible refine Fresh.trans ?_ (by assumption) | (simp; done) | (simp; omega))))
  clear h2
  go_wp2_with fail
  go_at_call 82; refine (str_w (w := X) ⟨(numTxt h.size h.flag).toArray⟩ (HH.out.then (H2.out.trans (by (repeat' first | with_reducible exact Fresh.refl _ | with_reducible assumption | with_reducible refine Fresh.alloc ?_ _ _ | with_reducible refine Fresh.drew ?_ | with_reducible refine Fresh.drewN ?_ _ | with_reducible refine Fresh.setCell ?_ ?_ _ | with_reducible refine Fresh.trans ?_ (by assumption) | (simp; done) | (simp; omega))))) (by have := HL.out; simp; omega)).mono ?_; rintro e w3 ⟨rfl, b3, -⟩
  go_wp2_with fail
  go_end0
  exact ⟨rfl, b3⟩
theorem write_6 (hk : h.kind = 6) (hl : bs.length + (recTxt h.name h.flag).length ≤ 225179981361972) : Calls Tryd.prog 55 #[.pointer (some ⟨b, 0, none⟩), .agg #[.int .i64 h.kind, .int .i64 h.size, .int .i64 h.len, .bool h.flag, .string h.name, .slice p n cap]] X fun e w' => e = .returned (.tuple #[]) ∧ Wro w0 b (bs ++ recTxt h.name h.flag) X w' := by
  have HKD := Lib.hid hk
  have HH := Lib.hid H
  have HSZ : Hid (h.name.size ≤ 225179981361972) := Lib.hid (by rw [sizeB]; unfold recTxt at hl; rw [List.length_append] at hl; omega)
  rw [← recB_txt] at hl ⊢
  have HL := Lib.hid hl
  clear hk H hl
  go_enter Tryd.func55, Tryd.ntmps55
  go_wp2_with fail
  go_at_call 43; refine (view6 h p n cap _ HKD.out).mono ?_; rintro e w1 ⟨rfl, h1⟩
  have H1 := Lib.hid (show Fresh X w1 from (by (repeat' first | with_reducible exact Fresh.refl _ | with_reducible assumption | with_reducible refine Fresh.alloc ?_ _ _ | with_reducible refine Fresh.drew ?_ | with_reducible refine Fresh.drewN ?_ _ | with_reducible refine Fresh.setCell ?_ ?_ _ | with_reducible refine Fresh.trans ?_ (by assumption) | (simp; done) | (simp; omega))))
  clear h1
  go_wp2_with fail
  go_at_call 86; refine (recordText_any h.name h.flag HSZ.out _).mono ?_; rintro e w2 ⟨rfl, h2⟩
  have H2 := Lib.hid (show Fresh X w2 from H1.out.trans (by (repeat' first | with_reducible exact Fresh.refl _ | with_reducible assumption | with_reducible refine Fresh.alloc ?_ _ _ | with_reducible refine Fresh.drew ?_ | with_reducible refine Fresh.drewN ?_ _ | with_reducible refine Fresh.setCell ?_ ?_ _ | with_reducible refine Fresh.trans ?_ (by assumption) | (simp; done) | (simp; omega))))
  clear h2
  go_wp2_with fail
  go_at_call 82; refine (str_w (w := X) (recB h.name h.flag) (HH.out.then (H2.out.trans (by (repeat' first | with_reducible exact Fresh.refl _ | with_reducible assumption | with_reducible refine Fresh.alloc ?_ _ _ | with_reducible refine Fresh.drew ?_ | with_reducible refine Fresh.drewN ?_ _ | with_reducible refine Fresh.setCell ?_ ?_ _ | with_reducible refine Fresh.trans ?_ (by assumption) | (simp; done) | (simp; omega))))) (by have := HL.out; omega)).mono ?_; rintro e w3 ⟨rfl, b3, -⟩
  go_wp2_with fail
  go_end0
  exact ⟨rfl, b3⟩
variable (HT : Tab w0) (hks : Kids ok w0 ks p n cap) (t1 : List UInt8)
  (kid : ∀ (Y : World) (p' : Option Addr) (n' cap' : Nat), Wro w0 b bs Y Y → Kids ok w0 ks.kids p' n' cap' → Calls Tryd.prog 55 #[.pointer (some ⟨b, 0, none⟩), .agg #[.int .i64 ks.hd.kind, .int .i64 ks.hd.size, .int .i64 ks.hd.len, .bool ks.hd.flag, .string ks.hd.name, .slice p' n' cap']] Y fun e w' => e = .returned (.tuple #[]) ∧ Wro w0 b (bs ++ t1) Y w')
include HT hks kid
set_option maxRecDepth 100000 in
set_option maxHeartbeats 2000000 in
theorem write_4 (hk : h.kind = 4) (hl : bs.length + t1.length + 1 ≤ 225179981361972) : Calls Tryd.prog 55 #[.pointer (some ⟨b, 0, none⟩), .agg #[.int .i64 h.kind, .int .i64 h.size, .int .i64 h.len, .bool h.flag, .string h.name, .slice p n cap]] X fun e w' => e = .returned (.tuple #[]) ∧ Wro w0 b (bs ++ (t1 ++ [42])) X w' := by
  have HKD := Lib.hid hk
  have HH := Lib.hid H
  have HK := Lib.hid hks
  have KID := Lib.hid kid
  have HL := Lib.hid hl
  clear hk H hl hks kid HT
  go_enter Tryd.func55, Tryd.ntmps55
  go_wp2_with fail
  go_at_call 43; refine (view4 h ks p n cap _ w0 (HH.out.fr.trans (by (repeat' first | with_reducible exact Fresh.refl _ | with_reducible assumption | with_reducible refine Fresh.alloc ?_ _ _ | with_reducible refine Fresh.drew ?_ | with_reducible refine Fresh.drewN ?_ _ | with_reducible refine Fresh.setCell ?_ ?_ _ | with_reducible refine Fresh.trans ?_ (by assumption) | (simp; done) | (simp; omega)))) HK.out HKD.out).mono ?_; rintro e w1 ⟨⟨p1, n1, cap1, rfl, hk1⟩, h1⟩; have HK1 := Lib.hid hk1; clear hk1
  have H1 := Lib.hid (show Fresh X w1 from (by (repeat' first | with_reducible exact Fresh.refl _ | with_reducible assumption | with_reducible refine Fresh.alloc ?_ _ _ | with_reducible refine Fresh.drew ?_ | with_reducible refine Fresh.drewN ?_ _ | with_reducible refine Fresh.setCell ?_ ?_ _ | with_reducible refine Fresh.trans ?_ (by assumption) | (simp; done) | (simp; omega))))
  clear h1
  go_wp2_with fail
  go_at_call 55; refine (KID.out _ p1 n1 cap1 (HH.out.then (H1.out.trans (by (repeat' first | with_reducible exact Fresh.refl _ | with_reducible assumption | with_reducible refine Fresh.alloc ?_ _ _ | with_reducible refine Fresh.drew ?_ | with_reducible refine Fresh.drewN ?_ _ | with_reducible refine Fresh.setCell ?_ ?_ _ | with_reducible refine Fresh.trans ?_ (by assumption) | (simp; done) | (simp; omega))))).from HK1.out).mono ?_; rintro e w2 ⟨rfl, b2⟩
  have H2 : Hid (Wro w0 b (bs ++ t1) X w2) := Lib.hid ((HH.out.then (H1.out.trans (by (repeat' first | with_reducible exact Fresh.refl _ | with_reducible assumption | with_reducible refine Fresh.alloc ?_ _ _ | with_reducible refine Fresh.drew ?_ | with_reducible refine Fresh.drewN ?_ _ | with_reducible refine Fresh.setCell ?_ ?_ _ | with_reducible refine Fresh.trans ?_ (by assumption) | (simp; done) | (simp; omega))))).trans b2)
  clear b2
  go_wp2_with fail
  go_at_call 84; refine (byte_w (w := X) 42 (H2.out.then (by (repeat' first | with_reducible exact Fresh.refl _ | with_reducible assumption | with_reducible refine Fresh.alloc ?_ _ _ | with_reducible refine Fresh.drew ?_ | with_reducible refine Fresh.drewN ?_ _ | with_reducible refine Fresh.setCell ?_ ?_ _ | with_reducible refine Fresh.trans ?_ (by assumption) | (simp; done) | (simp; omega)))) (by have := HL.out; simp; omega)).mono ?_; rintro e w3 ⟨rfl, b3, -⟩
  go_wp2_with fail
  go_end0
  exact ⟨rfl, by rw [← List.append_assoc]; exact b3⟩
set_option maxRecDepth 100000 in
set_option maxHeartbeats 2000000 in
theorem write_5 (hk : h.kind = 5) (hlen : HdL h) (hl : bs.length + t1.length + (1 + (Lib.itoa h.len).length + 1) ≤ 225179981361972) : Calls Tryd.prog 55 #[.pointer (some ⟨b, 0, none⟩), .agg #[.int .i64 h.kind, .int .i64 h.size, .int .i64 h.len, .bool h.flag, .string h.name, .slice p n cap]] X fun e w' => e = .returned (.tuple #[]) ∧ Wro w0 b (bs ++ (t1 ++ ([91] ++ Lib.itoa h.len ++ [93]))) X w' := by
  have HKD := Lib.hid hk
  have HH := Lib.hid H
  have HK := Lib.hid hks
  have KID := Lib.hid kid
  have HL := Lib.hid hl
  have HTT := Lib.hid HT
  have HN := Lib.hid hlen
  have hblt := H.bld.lt
  have HI := Lib.hid (Lib.itoa_length_le h.len hlen.1 hlen.2)
  clear hk H hl hks kid HT hlen
  go_enter Tryd.func55, Tryd.ntmps55
  go_wp2_with fail
  go_at_call 43; refine (view5 h ks p n cap _ w0 (HH.out.fr.trans (by (repeat' first | with_reducible exact Fresh.refl _ | with_reducible assumption | with_reducible refine Fresh.alloc ?_ _ _ | with_reducible refine Fresh.drew ?_ | with_reducible refine Fresh.drewN ?_ _ | with_reducible refine Fresh.setCell ?_ ?_ _ | with_reducible refine Fresh.trans ?_ (by assumption) | (simp; done) | (simp; omega)))) HK.out HKD.out).mono ?_; rintro e w1 ⟨⟨p1, n1, cap1, rfl, hk1⟩, h1⟩; have HK1 := Lib.hid hk1; clear hk1
  have H1 := Lib.hid (show Fresh X w1 from (by (repeat' first | with_reducible exact Fresh.refl _ | with_reducible assumption | with_reducible refine Fresh.alloc ?_ _ _ | with_reducible refine Fresh.drew ?_ | with_reducible refine Fresh.drewN ?_ _ | with_reducible refine Fresh.setCell ?_ ?_ _ | with_reducible refine Fresh.trans ?_ (by assumption) | (simp; done) | (simp; omega))))
  clear h1
  go_wp2_with fail
  have BX := Lib.hid (Box.new w1 #[.int .i64 ks.hd.kind, .int .i64 ks.hd.size, .int .i64 ks.hd.len, .bool ks.hd.flag, .string ks.hd.name, .slice p1 n1 cap1, .int .i64 h.len] 69)
  go_at_call 55; refine (KID.out _ p1 n1 cap1 (HH.out.then (H1.out.trans (by (repeat' first | with_reducible exact Fresh.refl _ | with_reducible assumption | with_reducible refine Fresh.alloc ?_ _ _ | with_reducible refine Fresh.drew ?_ | with_reducible refine Fresh.drewN ?_ _ | with_reducible refine Fresh.setCell ?_ ?_ _ | with_reducible refine Fresh.trans ?_ (by assumption) | (simp; done) | (simp; omega))))).from HK1.out).mono ?_; rintro e w2 ⟨rfl, b2⟩
  have x6 := (BX.out.kept b2.kept (by have := H1.out.size; omega) (by decide)).blk.1 6 _ rfl
  have H2 : Hid (Wro w0 b (bs ++ t1) X w2) := Lib.hid ((HH.out.then (H1.out.trans (by (repeat' first | with_reducible exact Fresh.refl _ | with_reducible assumption | with_reducible refine Fresh.alloc ?_ _ _ | with_reducible refine Fresh.drew ?_ | with_reducible refine Fresh.drewN ?_ _ | with_reducible refine Fresh.setCell ?_ ?_ _ | with_reducible refine Fresh.trans ?_ (by assumption) | (simp; done) | (simp; omega))))).trans b2)
  clear b2 BX
  go_wp2_with fail
  go_at_call 85; refine (itoa_any h.len HN.out HTT.out (H2.out.fr.trans (by (repeat' first | with_reducible exact Fresh.refl _ | with_reducible assumption | with_reducible refine Fresh.alloc ?_ _ _ | with_reducible refine Fresh.drew ?_ | with_reducible refine Fresh.drewN ?_ _ | with_reducible refine Fresh.setCell ?_ ?_ _ | with_reducible refine Fresh.trans ?_ (by assumption) | (simp; done) | (simp; omega))))).mono ?_; rintro e w3 ⟨rfl, h3⟩
  have H3 : Hid (Wro w0 b (bs ++ t1) X w3) := Lib.hid (H2.out.then (by (repeat' first | with_reducible exact Fresh.refl _ | with_reducible assumption | with_reducible refine Fresh.alloc ?_ _ _ | with_reducible refine Fresh.drew ?_ | with_reducible refine Fresh.drewN ?_ _ | with_reducible refine Fresh.setCell ?_ ?_ _ | with_reducible refine Fresh.trans ?_ (by assumption) | (simp; done) | (simp; omega))))
  clear x6 h3
  have c1 : ¬ 9223372036854775807 < 1 + (Lib.itoa h.len).length := (by have := HI.out; omega)
  have c2 : ¬ 9223372036854775807 < 1 + (Lib.itoa h.len).length + 1 := (by have := HI.out; omega)
  go_wp2_with fail
  go_at_call 82; refine (str_w (w := X) _ (H3.out.then (by (repeat' first | with_reducible exact Fresh.refl _ | with_reducible assumption | with_reducible refine Fresh.alloc ?_ _ _ | with_reducible refine Fresh.drew ?_ | with_reducible refine Fresh.drewN ?_ _ | with_reducible refine Fresh.setCell ?_ ?_ _ | with_reducible refine Fresh.trans ?_ (by assumption) | (simp; done) | (simp; omega)))) ?_).mono ?_
  · simp only [catB]
    have h1 := HL.out
    have h2 := HI.out
    simp
    omega
  rintro e w4 ⟨rfl, b4, -⟩
  simp only [catB] at b4
  go_wp2_with fail
  go_end0
  refine ⟨rfl, ?_⟩
  simpa using b4
set_option maxRecDepth 100000 in
set_option maxHeartbeats 2000000 in
theorem write_7 (hk : h.kind = 7) (t2 : List UInt8) (hl : bs.length + t1.length ≤ 225179981361972)
    (par : ∀ (Y : World) (p' : Option Addr) (n' cap' : Nat), Wro w0 b (bs ++ t1) Y Y → Kids ok w0 ks.rest p' n' cap' → Calls Tryd.prog 87 #[.pointer (some ⟨b, 0, none⟩), .slice p' n' cap'] Y fun e w' => e = .returned (.tuple #[]) ∧ Wro w0 b (bs ++ t1 ++ t2) Y w') :
    Calls Tryd.prog 55 #[.pointer (some ⟨b, 0, none⟩), .agg #[.int .i64 h.kind, .int .i64 h.size, .int .i64 h.len, .bool h.flag, .string h.name, .slice p n cap]] X fun e w' => e = .returned (.tuple #[]) ∧ Wro w0 b (bs ++ (t1 ++ t2)) X w' := by
  have HKD := Lib.hid hk
  have HH := Lib.hid H
  have HK := Lib.hid hks
  have KID := Lib.hid kid
  have PAR := Lib.hid par
  have HL := Lib.hid hl
  have hblt := H.bld.lt
  clear hk H hl hks kid HT par
  go_enter Tryd.func55, Tryd.ntmps55
  go_wp2_with fail
  go_at_call 43; refine (view7 h ks p n cap _ w0 (HH.out.fr.trans (by (repeat' first | with_reducible exact Fresh.refl _ | with_reducible assumption | with_reducible refine Fresh.alloc ?_ _ _ | with_reducible refine Fresh.drew ?_ | with_reducible refine Fresh.drewN ?_ _ | with_reducible refine Fresh.setCell ?_ ?_ _ | with_reducible refine Fresh.trans ?_ (by assumption) | (simp; done) | (simp; omega)))) HK.out HKD.out).mono ?_; rintro e w1 ⟨⟨p1, n1, cap1, p2, n2, cap2, rfl, hk1, hk2⟩, h1⟩; have HK1 := Lib.hid hk1; have HK2 := Lib.hid hk2; clear hk1 hk2
  have H1 := Lib.hid (show Fresh X w1 from (by (repeat' first | with_reducible exact Fresh.refl _ | with_reducible assumption | with_reducible refine Fresh.alloc ?_ _ _ | with_reducible refine Fresh.drew ?_ | with_reducible refine Fresh.drewN ?_ _ | with_reducible refine Fresh.setCell ?_ ?_ _ | with_reducible refine Fresh.trans ?_ (by assumption) | (simp; done) | (simp; omega))))
  clear h1
  go_wp2_with fail
  have BX := Lib.hid (Box.new w1 #[.int .i64 ks.hd.kind, .int .i64 ks.hd.size, .int .i64 ks.hd.len, .bool ks.hd.flag, .string ks.hd.name, .slice p1 n1 cap1, .slice p2 n2 cap2] 85)
  go_at_call 55; refine (KID.out _ p1 n1 cap1 (HH.out.then (H1.out.trans (by (repeat' first | with_reducible exact Fresh.refl _ | with_reducible assumption | with_reducible refine Fresh.alloc ?_ _ _ | with_reducible refine Fresh.drew ?_ | with_reducible refine Fresh.drewN ?_ _ | with_reducible refine Fresh.setCell ?_ ?_ _ | with_reducible refine Fresh.trans ?_ (by assumption) | (simp; done) | (simp; omega))))).from HK1.out).mono ?_; rintro e w2 ⟨rfl, b2⟩
  have x6 := (BX.out.kept b2.kept (by have := H1.out.size; omega) (by decide)).blk.1 6 _ rfl
  have H2 : Hid (Wro w0 b (bs ++ t1) X w2) := Lib.hid ((HH.out.then (H1.out.trans (by (repeat' first | with_reducible exact Fresh.refl _ | with_reducible assumption | with_reducible refine Fresh.alloc ?_ _ _ | with_reducible refine Fresh.drew ?_ | with_reducible refine Fresh.drewN ?_ _ | with_reducible refine Fresh.setCell ?_ ?_ _ | with_reducible refine Fresh.trans ?_ (by assumption) | (simp; done) | (simp; omega))))).trans b2)
  clear b2 BX
  go_wp2_with fail
  go_at_call 87; refine (PAR.out _ p2 n2 cap2 (H2.out.then (by (repeat' first | with_reducible exact Fresh.refl _ | with_reducible assumption | with_reducible refine Fresh.alloc ?_ _ _ | with_reducible refine Fresh.drew ?_ | with_reducible refine Fresh.drewN ?_ _ | with_reducible refine Fresh.setCell ?_ ?_ _ | with_reducible refine Fresh.trans ?_ (by assumption) | (simp; done) | (simp; omega)))).from HK2.out).mono ?_; rintro e w3 ⟨rfl, b3⟩
  have H3 : Hid (Wro w0 b (bs ++ t1 ++ t2) X w3) := Lib.hid ((H2.out.then (by (repeat' first | with_reducible exact Fresh.refl _ | with_reducible assumption | with_reducible refine Fresh.alloc ?_ _ _ | with_reducible refine Fresh.drew ?_ | with_reducible refine Fresh.drewN ?_ _ | with_reducible refine Fresh.setCell ?_ ?_ _ | with_reducible refine Fresh.trans ?_ (by assumption) | (simp; done) | (simp; omega)))).trans b3)
  clear x6 b3
  go_wp2_with fail
  go_end0
  exact ⟨rfl, by rw [← List.append_assoc]; exact H3.out⟩
end
end Go.Proofs.YteiomcbphbbpkaaDoor
/- How the program writes a function's parameters; and every type. -/
namespace Go.Proofs.YteiomcbphbbpkaaDoor
set_option linter.unusedSimpArgs false
set_option linter.unusedVariables false
open Go.RowKit

theorem joinF_cons (f : Bool) (t : List UInt8) (r : List (List UInt8)) : joinF f (t :: r) = (if f then [] else [44, 32]) ++ t ++ joinF false r := by cases f <;> simp [joinF]
set_option maxRecDepth 100000 in
set_option maxHeartbeats 4000000 in
theorem params_w {ok : Nat → Prop} (r : Tys) (p2 : Option Addr) (n2 cap2 : Nat) (w0 Y : World) (b : Nat) (bs : List UInt8) (HT : Tab w0) (H : Wro w0 b bs Y Y) (hks : Kids ok w0 r p2 n2 cap2) (hall : AllWr r) (hl : (bs ++ [40] ++ joinF true r.txts).length + 1 ≤ 225179981361972) :
    Calls Tryd.prog 87 #[.pointer (some ⟨b, 0, none⟩), .slice p2 n2 cap2] Y fun e w' => e = .returned (.tuple #[]) ∧ Wro w0 b (bs ++ [40] ++ joinF true r.txts ++ [41]) Y w' := by
  have HN := Lib.hid hks.1
  have hcap : cap2 ≤ 9223372036854775807 := hks.2.2.1
  have hnc : n2 ≤ cap2 := hks.2.1
  obtain ⟨xs, hx, hxl, hxp⟩ := hks.cells
  have HP1 : Hid (n2 = 0 ∨ ∃ B off, p2 = some ⟨B, off, none⟩) := Lib.hid (by
    rcases hxp with ⟨-, h, -⟩ | ⟨B, off, e, -⟩
    · exact Or.inl h
    · exact Or.inr ⟨B, off, e⟩)
  have R1 : Hid (RestAt w0 p2 0 xs) := Lib.hid (by
    intro B off e j u hu
    rcases hxp with ⟨e', -⟩ | ⟨B', off', e', h⟩
    · rw [e] at e'; cases e'
    · rw [e] at e'; cases e'
      have := h j u hu
      rw [Go.WideShapes.add_plain] at this
      simpa using this)
  have HX := Lib.hid hx
  have HAL := Lib.hid hall
  have HH := Lib.hid H
  have HTT := Lib.hid HT
  generalize hT : bs ++ [40] ++ joinF true r.txts = T at *
  have HTE := Lib.hid hT
  have HL := Lib.hid hl
  have HB : Hid (bs.length + 1 ≤ T.length) := Lib.hid (by rw [← hT]; simp)
  clear hx hxl hxp hks hall H HT hT hl
  go_enter Tryd.func87, Tryd.ntmps87
  go_wp2_with fail
  go_at_call 84; refine (byte_w (w := Y) 40 (HH.out.then (by (repeat' first | with_reducible exact Fresh.refl _ | with_reducible assumption | with_reducible refine Fresh.alloc ?_ _ _ | with_reducible refine Fresh.drew ?_ | with_reducible refine Fresh.drewN ?_ _ | with_reducible refine Fresh.setCell ?_ ?_ _ | with_reducible refine Fresh.trans ?_ (by assumption) | (simp; done) | (simp; omega)))) (by have := HL.out; have := HB.out; omega)).mono ?_; rintro e w1 ⟨rfl, b1, -⟩
  have B1 := Lib.hid b1
  clear b1 HB
  go_wp2_with fail
  go_loopw [10] (fun i wr => ∃ (k : Nat) (r1 : Tys) (zs1 : List Value) (acc : List UInt8), k ≤ n2 ∧ i = .int .i64 k ∧ Hid (T = acc ++ joinF (decide (k = 0)) r1.txts ∧ r1.length = n2 - k ∧ AllWr r1) ∧ Hid (r1.cells ok w0 zs1 ∧ RestAt w0 p2 k zs1) ∧ Hid (Wro w0 b acc Y wr)) (fun i _ => n2 - (intOf i).toNat)
  case atStart => exact ⟨0, r, xs, bs ++ [40], by omega, rfl, Lib.hid ⟨HTE.out.symm, HN.out.symm, HAL.out⟩, Lib.hid ⟨HX.out, R1.out⟩, B1⟩
  case round =>
    obtain ⟨k, r1, zs1, acc, hk, rfl, HI, HC, FW⟩ := hrel
    have hblt := FW.out.bld.lt
    by_cases hlt : k < n2
    · cases r1 with
      | nil => exfalso; have := HI.out.2.1; simp [Tys.length] at this; omega
      | cons h1 k1 r1' =>
        obtain ⟨⟨q1, m1, c1, zs1', rfl, hk1, hr1⟩, ha1⟩ := HC.out
        obtain ⟨B1, off1, rfl⟩ := HP1.out.resolve_left (by omega)
        obtain ⟨a0, a1, a2, a3, a4, a5, ar⟩ := six_at (ha1 B1 off1 rfl)
        have S1 : Hid (RestAt w0 (some ⟨B1, off1, none⟩) (k + 1) zs1') := Lib.hid (fun B off e j u hu => by
          cases e
          have := ar j u hu
          rwa [show off1 + k * 6 + 6 + j = off1 + (k + 1) * 6 + j by omega] at this)
        have FX := FW.out.fr
        have a0 := FX.at' a0
        have a1 := FX.at' a1
        have a2 := FX.at' a2
        have a3 := FX.at' a3
        have a4 := FX.at' a4
        have a5 := FX.at' a5
        have az := cell_lt a0
        simp only at az
        have CS : Hid (∀ Z acc', Wro w0 b acc' Z Z → acc'.length + (txtT h1 k1.txts).length ≤ 225179981361972 → Calls Tryd.prog 55 #[.pointer (some ⟨b, 0, none⟩), .agg #[.int .i64 h1.kind, .int .i64 h1.size, .int .i64 h1.len, .bool h1.flag, .string h1.name, .slice q1 m1 c1]] Z fun e w' => e = .returned (.tuple #[]) ∧ Wro w0 b (acc' ++ txtT h1 k1.txts) Z w') := Lib.hid (fun Z acc' hZ hl => HI.out.2.2.1 ok q1 m1 c1 w0 Z b acc' HTT.out hZ hk1 hl)
        have HI2 : Hid (T = acc ++ joinF (decide (k = 0)) (txtT h1 k1.txts :: r1'.txts) ∧ r1'.length = n2 - (k + 1) ∧ AllWr r1') := Lib.hid (by
          obtain ⟨i1, i2, i3⟩ := HI.out
          refine ⟨i1, ?_, i3.2⟩
          simp [Tys.length] at i2
          omega)
        have HC2 := Lib.hid hr1
        have hlt' : (k : Int) < (n2 : Int) := by omega
        clear ar ha1 hk1 hr1 HI HC FX
        generalize txtT h1 k1.txts = t at *
        by_cases h0 : k = 0
        · subst h0
          simp only [Nat.zero_mul, Nat.add_zero] at a0 a1 a2 a3 a4 a5
          have HE : Hid (T = acc ++ t ++ joinF false r1'.txts) := Lib.hid (by rw [HI2.out.1, joinF_cons]; simp)
          go_wp2_with fail
          go_at_call 55; refine (CS.out _ acc (FW.out.then (by (repeat' first | with_reducible exact Fresh.refl _ | with_reducible assumption | with_reducible refine Fresh.alloc ?_ _ _ | with_reducible refine Fresh.drew ?_ | with_reducible refine Fresh.drewN ?_ _ | with_reducible refine Fresh.setCell ?_ ?_ _ | with_reducible refine Fresh.trans ?_ (by assumption) | (simp; done) | (simp; omega)))).from (by have h1 := HL.out; rw [HE.out] at h1; simp at h1; omega)).mono ?_; rintro e w3 ⟨rfl, b3⟩
          have F1 := Lib.hid ((FW.out.then (by (repeat' first | with_reducible exact Fresh.refl _ | with_reducible assumption | with_reducible refine Fresh.alloc ?_ _ _ | with_reducible refine Fresh.drew ?_ | with_reducible refine Fresh.drewN ?_ _ | with_reducible refine Fresh.setCell ?_ ?_ _ | with_reducible refine Fresh.trans ?_ (by assumption) | (simp; done) | (simp; omega)))).trans b3)
          clear a0 a1 a2 a3 a4 a5 az b3 CS
          go_wp2_with fail
          go_roundw
          case rel => exact ⟨1, r1', zs1', acc ++ t, by omega, by go_num, Lib.hid ⟨HE.out, HI2.out.2.1, HI2.out.2.2⟩, Lib.hid ⟨HC2.out, S1.out⟩, F1⟩
          case measure => simp [intOf]; omega
        · have HE : Hid (T = acc ++ [44, 32] ++ t ++ joinF false r1'.txts) := Lib.hid (by rw [HI2.out.1, joinF_cons]; simp [h0])
          have hgt : (0 : Int) < (k : Int) := by omega
          have HZ := Lib.hid h0
          clear h0
          go_wp2_with fail
          have BX := Lib.hid (Box.new wr #[.int .i64 h1.kind, .int .i64 h1.size, .int .i64 h1.len, .bool h1.flag, .string h1.name, .slice q1 m1 c1] 30)
          go_at_call 82; refine (str_w (w := Y) ⟨#[44, 32]⟩ (FW.out.then (by (repeat' first | with_reducible exact Fresh.refl _ | with_reducible assumption | with_reducible refine Fresh.alloc ?_ _ _ | with_reducible refine Fresh.drew ?_ | with_reducible refine Fresh.drewN ?_ _ | with_reducible refine Fresh.setCell ?_ ?_ _ | with_reducible refine Fresh.trans ?_ (by assumption) | (simp; done) | (simp; omega)))) (by have h1 := HL.out; rw [HE.out] at h1; simp at h1 ⊢; omega)).mono ?_; rintro e w2 ⟨rfl, b2, k2⟩
          have BX := Lib.hid (BX.out.kept k2.kept (by omega) (by decide))
          obtain ⟨y0, y1, y2, y3, y4, y5, yf⟩ := BX.out.blk.six
          have B2 := Lib.hid b2
          clear a0 a1 a2 a3 a4 a5 az b2 k2
          go_wp2_with fail
          go_at_call 55; refine (CS.out _ (acc ++ [44, 32]) (B2.out.then (by (repeat' first | with_reducible exact Fresh.refl _ | with_reducible assumption | with_reducible refine Fresh.alloc ?_ _ _ | with_reducible refine Fresh.drew ?_ | with_reducible refine Fresh.drewN ?_ _ | with_reducible refine Fresh.setCell ?_ ?_ _ | with_reducible refine Fresh.trans ?_ (by assumption) | (simp; done) | (simp; omega)))).from (by have h1 := HL.out; rw [HE.out] at h1; simp at h1 ⊢; omega)).mono ?_; rintro e w3 ⟨rfl, b3⟩
          have F1 := Lib.hid ((B2.out.then (by (repeat' first | with_reducible exact Fresh.refl _ | with_reducible assumption | with_reducible refine Fresh.alloc ?_ _ _ | with_reducible refine Fresh.drew ?_ | with_reducible refine Fresh.drewN ?_ _ | with_reducible refine Fresh.setCell ?_ ?_ _ | with_reducible refine Fresh.trans ?_ (by assumption) | (simp; done) | (simp; omega)))).trans b3)
          clear y0 y1 y2 y3 y4 y5 yf b3 CS
          go_wp2_with fail
          go_roundw
          case rel => exact ⟨k + 1, r1', zs1', acc ++ [44, 32] ++ t, by omega, by go_num, Lib.hid ⟨by rw [HE.out]; rfl, HI2.out.2.1, HI2.out.2.2⟩, Lib.hid ⟨HC2.out, S1.out⟩, F1⟩
          case measure => simp [intOf]; omega
    · obtain rfl : k = n2 := by omega
      have HR : Hid (T = acc) := Lib.hid (by
        obtain ⟨i1, i2, -⟩ := HI.out
        cases r1 with
        | nil => simpa [Tys.txts, joinF] using i1
        | cons _ _ _ => simp [Tys.length] at i2)
      go_wp2_with fail
      go_at_call 84; refine (byte_w (w := Y) 41 (FW.out.then (by (repeat' first | with_reducible exact Fresh.refl _ | with_reducible assumption | with_reducible refine Fresh.alloc ?_ _ _ | with_reducible refine Fresh.drew ?_ | with_reducible refine Fresh.drewN ?_ _ | with_reducible refine Fresh.setCell ?_ ?_ _ | with_reducible refine Fresh.trans ?_ (by assumption) | (simp; done) | (simp; omega)))) (by have h1 := HL.out; rw [HR.out] at h1; omega)).mono ?_; rintro e w3 ⟨rfl, b3, -⟩
      go_wp2_with fail
      go_end0
      exact ⟨rfl, by rw [HR.out]; exact b3⟩
theorem write_of (a : Hd) (ks : Tys) (hwa : WFh a ks) (hlen : HdL a) (hall : AllWr ks) : WrSpec a ks := by
  intro ok p n cap w0 X b bs HT H hks hl
  rcases hwa with ⟨rfl, rfl⟩ | ⟨rfl, rfl⟩ | ⟨s, u, rfl, rfl⟩ | ⟨rfl, rfl⟩ | ⟨rfl, hll⟩ | ⟨l, rfl, hll⟩ | ⟨nm, u, rfl, rfl⟩ | ⟨rfl, hll⟩
  · exact write_0 Hd.zero p n cap w0 X b bs H rfl hl
  · exact write_1 (hd1 1) p n cap w0 X b bs H rfl hl
  · exact write_2 (numHd s u) p n cap w0 X b bs H rfl hl
  · exact write_3 (hd1 3) p n cap w0 X b bs H rfl hl
  · obtain ⟨a1, k1, rfl⟩ := len1 hll
    have e : txtT (hd1 4) (Tys.cons a1 k1 .nil).txts = txtT a1 k1.txts ++ [42] := rfl
    rw [e] at hl ⊢
    simp only [List.length_append, List.length_cons, List.length_nil] at hl
    exact write_4 (hd1 4) (.cons a1 k1 .nil) p n cap w0 X b bs H HT hks (txtT a1 k1.txts) (fun Z p' n' c' hZ hk => hall.1 ok p' n' c' w0 Z b bs HT hZ hk (by omega)) rfl (by omega)
  · obtain ⟨a1, k1, rfl⟩ := len1 hll
    have e : txtT (arrHd l) (Tys.cons a1 k1 .nil).txts = txtT a1 k1.txts ++ ([91] ++ Lib.itoa l ++ [93]) := rfl
    rw [e] at hl ⊢
    simp only [List.length_append, List.length_cons, List.length_nil] at hl
    exact write_5 (arrHd l) (.cons a1 k1 .nil) p n cap w0 X b bs H HT hks (txtT a1 k1.txts) (fun Z p' n' c' hZ hk => hall.1 ok p' n' c' w0 Z b bs HT hZ hk (by omega)) rfl hlen (by show bs.length + (txtT a1 k1.txts).length + (1 + (Lib.itoa l).length + 1) ≤ _; omega)
  · exact write_6 (recHd nm u) p n cap w0 X b bs H rfl hl
  · obtain ⟨a1, k1, r1, rfl⟩ := len_pos hll
    have e : txtT (hd1 7) (Tys.cons a1 k1 r1).txts = txtT a1 k1.txts ++ ([40] ++ joinF true r1.txts ++ [41]) := by
      show txtT a1 k1.txts ++ [40] ++ joinF true r1.txts ++ [41] = _
      simp
    rw [e] at hl ⊢
    simp only [List.length_append, List.length_cons, List.length_nil] at hl
    refine write_7 (hd1 7) (.cons a1 k1 r1) p n cap w0 X b bs H HT hks (txtT a1 k1.txts) (fun Z p' n' c' hZ hk => hall.1 ok p' n' c' w0 Z b bs HT hZ hk (by omega)) rfl _ (by omega) (fun Z p' n' c' hZ hk => ?_)
    refine (params_w r1 p' n' c' w0 Z b (bs ++ txtT a1 k1.txts) HT hZ hk hall.2 (by simp only [List.length_append, List.length_cons, List.length_nil]; omega)).mono ?_
    rintro e w' ⟨he, hw⟩
    exact ⟨he, by simpa using hw⟩
theorem allWr : ∀ ks : Tys, ks.wf → ks.lens → AllWr ks
  | .nil, _, _ => trivial
  | .cons h k r, hw, hl => ⟨write_of h k hw.1.1 hl.1.1 (allWr k hw.1.2 hl.1.2), allWr r hw.2 hl.2⟩
theorem write_any (h : Hd) (ks : Tys) (hwa : WFh h ks) (hw : ks.wf) (hl : HdL h) (hls : ks.lens) : WrSpec h ks := write_of h ks hwa hl (allWr ks hw hls)
theorem Tab.later {w0 w : World} (h : Tab w0) (hf : Fresh w0 w) : Tab w := fun w' hb => (h.on hf.below) w' (hb.mono hf.size)
theorem Bld.isB {R b : Nat} {bs : List Value} {w : World} (h : Bld R b bs w) (hR : R ≤ b) : Lib.IsBuilder 92 5 R b bs w := by
  obtain ⟨p, v, hp, hb, hown, hne⟩ := h
  rcases hp with rfl | rfl
  · exact Or.inl ⟨hR, v, hb, hown, hne⟩
  · exact Or.inr ⟨hR, v, hb, hown, hne⟩
set_option maxRecDepth 100000 in
set_option maxHeartbeats 2000000 in
/-- THE PROGRAM'S Text. -/
theorem text_any {ok : Nat → Prop} (h : Hd) (ks : Tys) (p : Option Addr) (n cap : Nat) (w0 w : World) (hwa : WFh h ks) (hw : ks.wf) (hl : HdL h) (hls : ks.lens) (HT : Tab w0) (hf : Fresh w0 w) (hks : Kids ok w0 ks p n cap) (hlen : (txtT h ks.txts).length ≤ 225179981361972) :
    Calls Tryd.prog 18 #[.agg #[.int .i64 h.kind, .int .i64 h.size, .int .i64 h.len, .bool h.flag, .string h.name, .slice p n cap]] w fun e w' => e = .returned (.string ⟨(txtT h ks.txts).toArray⟩) ∧ Fresh w w' := by
  have HK := Lib.hid (hks.later hf)
  have HTT := Lib.hid (HT.later hf)
  have HWR : Hid (∀ Z, Wro w (w.heap.size + 1) [] Z Z → Calls Tryd.prog 55 #[.pointer (some ⟨w.heap.size + 1, 0, none⟩), .agg #[.int .i64 h.kind, .int .i64 h.size, .int .i64 h.len, .bool h.flag, .string h.name, .slice p n cap]] Z fun e w' => e = .returned (.tuple #[]) ∧ Wro w (w.heap.size + 1) (txtT h ks.txts) Z w') := Lib.hid (fun Z hZ => by
    have := write_any h ks hwa hw hl hls ok p n cap w Z (w.heap.size + 1) [] HTT.out hZ HK.out (by simpa using hlen)
    simpa using this)
  clear hks hf HT hlen hwa hw hl hls
  generalize txtT h ks.txts = t at *
  go_enter Tryd.func18, Tryd.ntmps18
  go_wp2_with fail
  have B0 : Hid (Bld w.heap.size (w.heap.size + 1) [] ((w.alloc (.cells #[.int .i64 h.kind, .int .i64 h.size, .int .i64 h.len, .bool h.flag, .string h.name, .slice p n cap] 30)).alloc (.cells #[.pointer none, .slice none 0 0] 92))) := Lib.hid (by
    have := Bld.fresh w.heap.size (w.alloc (.cells #[.int .i64 h.kind, .int .i64 h.size, .int .i64 h.len, .bool h.flag, .string h.name, .slice p n cap] 30))
    simpa using this)
  go_at_call 55; refine (HWR.out _ ⟨B0.out, (by (repeat' first | with_reducible exact Fresh.refl _ | with_reducible assumption | with_reducible refine Fresh.alloc ?_ _ _ | with_reducible refine Fresh.drew ?_ | with_reducible refine Fresh.drewN ?_ _ | with_reducible refine Fresh.setCell ?_ ?_ _ | with_reducible refine Fresh.trans ?_ (by assumption) | (simp; done) | (simp; omega))), Lib.OthersKept.refl _ _ _, by omega⟩).mono ?_; rintro e w2 ⟨rfl, b2⟩
  have B2 := Lib.hid b2
  have hz := b2.fr.size
  have hblt := b2.bld.lt
  clear b2 B0 HWR
  go_wp2_with fail
  go_at_call 56; refine (Tryd.Builder_String_any w.heap.size (w.heap.size + 1) t _ (B2.out.bld.isB (by omega)) (by omega)).mono ?_; rintro e w3 ⟨rfl, k3⟩
  go_wp2_with fail
  go_returns
  exact ⟨rfl, ⟨B2.out.fr.below.trans k3⟩⟩
end Go.Proofs.YteiomcbphbbpkaaDoor
/- The reference's Decimal: a number's numeral. -/
namespace Go.Proofs.YteiomcbphbbpkaaDoor
set_option linter.unusedSimpArgs false
set_option linter.unusedVariables false
open Go.RowKit

/-- The digits of what is left; none of nothing. -/
def preD (v : Nat) : List UInt8 := if v = 0 then [] else Lib.decDigits v
theorem preD_step (v : Nat) : preD v ++ [] = preD v := by simp
theorem dec_step {v : Nat} (hv : 0 < v) (s : List UInt8) : preD v ++ s = preD (v / 10) ++ ([UInt8.ofNat (48 + v % 10)] ++ s) := by
  unfold preD
  rw [if_neg (by omega)]
  by_cases h : v < 10
  · rw [Lib.decDigits, dif_pos h, if_pos (by omega), Nat.mod_eq_of_lt h]; rfl
  · rw [Lib.decDigits, dif_neg h, if_neg (by omega), List.append_assoc]
theorem nDigits_le : ∀ (k u : Nat), u < 10 ^ (k + 1) → Lib.nDigits u ≤ k + 1
  | 0, u, h => by rw [Lib.nDigits_small (by simpa using h)]; exact Nat.le_refl _
  | k + 1, u, h => by
    by_cases h1 : u < 10
    · rw [Lib.nDigits_small h1]; omega
    · rw [Lib.nDigits_big h1]
      have := nDigits_le k (u / 10) (by rw [Nat.pow_succ] at h; omega)
      omega
def strLen : Value → Nat
  | .string b => b.size
  | _ => 0
@[simp] theorem strLen_list (l : List UInt8) : strLen (.string ⟨l.toArray⟩) = l.length := by simp [strLen, ByteArray.size]
@[simp] theorem strLen_arr (l : List UInt8) : ByteArray.size ⟨l.toArray⟩ = l.length := by simp [ByteArray.size]
theorem cell_one (w : World) (v : Value) (t : TypeId) : (w.alloc (.cells #[v] t)).cell? ⟨w.heap.size, 0, none⟩ = some v := by rw [World.cell?_alloc_at _ _ _ _ rfl]; rfl
theorem back_one (w : World) (d : UInt8) (c : Nat) (g : Nat) (hc : w.cell? ⟨g, 0, none⟩ = some (.int .u8 d.toNat)) : (convert 90 9 (.slice (some ⟨g, 0, none⟩) 1 c)).run Tryd.prog w = .ok (.string ⟨#[d]⟩) w :=
  run_convert_bytes_back w 90 9 5 ⟨g, 0, none⟩ c [d] Tryd.underlying90 Tryd.underlying5 Tryd.underlying9 (fun j hj => by
    have : j = 0 := by simp at hj; omega
    subst this
    simpa [Addr.add] using hc)
theorem dig_val (v : Nat) : ((UInt8.ofNat (48 + v % 10)).toNat : Int) = 48 + (v : Int) % 10 := by
  have : (UInt8.ofNat (48 + v % 10)).toNat = 48 + v % 10 := by
    simp only [UInt8.toNat_ofNat']
    omega
  rw [this]
  omega
theorem pre_zero : preD 0 = [] := rfl
theorem dec_len {U : Nat} (hU : U < 18446744073709551616) : (Lib.decDigits U).length ≤ 20 := by
  rw [Lib.decDigits_length]
  exact nDigits_le 19 U (by omega)
set_option maxRecDepth 100000 in
set_option maxHeartbeats 4000000 in
theorem decimal_nat (n : Int) (U : Nat) (s0 : Bool) (hU : U < 18446744073709551616) (hu : (if s0 then IntKind.u64.wrap (-(IntKind.u64.wrap n)) else IntKind.u64.wrap n) = (U : Int)) (hn : decide (n < 0) = s0) (w : World) :
    Calls Tryd.prog 57 #[.int .i64 n] w fun e w' => e = .returned (.string ⟨(if s0 then 45 :: Lib.decDigits U else Lib.decDigits U).toArray⟩) ∧ Fresh w w' := by
  have HD := Lib.hid (dec_len hU)
  have HLT := Lib.hid hU
  clear hU
  cases s0
  · simp only [if_true, if_false, Bool.false_eq_true] at hu
    have hn' : 0 ≤ n := by simpa using hn
    clear hn
    go_enter Tryd.func57, Tryd.ntmps57
    go_wp2_with fail
    go_loopw [3, 4] (fun u s wr => ∃ (v : Nat) (l : List UInt8), u = .int .u64 v ∧ s = .string ⟨l.toArray⟩ ∧ v ≤ U ∧ Hid ((l = [] ∧ v = U) ∨ (l ≠ [] ∧ preD v ++ l = Lib.decDigits U)) ∧ Hid (Fresh w wr)) (fun u s _ => 2 * (intOf u).toNat + (1 - strLen s))
    case atStart => exact ⟨U, [], by simp, rfl, Nat.le_refl _, Lib.hid (Or.inl ⟨rfl, rfl⟩), Lib.hid (Fresh.refl w)⟩
    case round =>
      obtain ⟨v, l, rfl, rfl, hv, HI, FW⟩ := hrel
      clear hu
      have HL : Hid (l.length ≤ 20) := Lib.hid (by
        rcases HI.out with ⟨rfl, -⟩ | ⟨-, h⟩
        · simp
        · have h2 := HD.out
          rw [← h, List.length_append] at h2
          omega)
      by_cases hv0 : 0 < v
      · have hlt0 : (0 : Int) < (v : Int) := by omega
        have HN : Hid (preD (v / 10) ++ ([UInt8.ofNat (48 + v % 10)] ++ l) = Lib.decDigits U) := Lib.hid (by
          rcases HI.out with ⟨rfl, rfl⟩ | ⟨-, h⟩
          · rw [← dec_step hv0]; simp [preD, show v ≠ 0 by omega]
          · rw [← dec_step hv0]; exact h)
        have dv := dig_val v
        have DV := Lib.hid dv
        clear dv
        generalize UInt8.ofNat (48 + v % 10) = d at *
        have cv := back_one (wr.alloc (.cells #[.int .u8 (48 + (v : Int) % 10)] 5)) d 1 wr.heap.size (by rw [cell_one, DV.out])
        have c1 : ¬ 9223372036854775807 < 1 + l.length := (by have := HL.out; omega)
        have ca : (⟨#[d]⟩ : ByteArray) ++ ⟨l.toArray⟩ = ⟨(d :: l).toArray⟩ := eqB (by rw [catB]; rfl)
        have CA := Lib.hid ca
        clear ca
        have ew : IntKind.u64.wrap ((v : Int) / 10) = ((v / 10 : Nat) : Int) := (by rw [IntKind.wrap_u64]; have := HLT.out; omega)
        go_wp2_with fail
        rw [CA.out]
        go_roundw
        case rel => exact ⟨v / 10, d :: l, by first | rfl | (rw [ew]; done) | go_num, rfl, by omega, Lib.hid (Or.inr ⟨by simp, HN.out⟩), Lib.hid (FW.out.trans (by (repeat' first | with_reducible exact Fresh.refl _ | with_reducible assumption | with_reducible refine Fresh.alloc ?_ _ _ | with_reducible refine Fresh.drew ?_ | with_reducible refine Fresh.drewN ?_ _ | with_reducible refine Fresh.setCell ?_ ?_ _ | with_reducible refine Fresh.trans ?_ (by assumption) | (simp; done) | (simp; omega))))⟩
        case measure => simp [intOf, strLen]; omega
      · obtain rfl : v = 0 := by omega
        by_cases hl0 : l = []
        · subst hl0
          have HN : Hid (U = 0) := Lib.hid (by
            rcases HI.out with ⟨-, h⟩ | ⟨h, -⟩
            · exact h.symm
            · exact absurd rfl h)
          have cv := back_one (wr.alloc (.cells #[.int .u8 48] 5)) 48 1 wr.heap.size (by rw [cell_one]; rfl)
          go_wp2_with fail
          go_roundw
          case rel => exact ⟨0, [48], rfl, rfl, by omega, Lib.hid (Or.inr ⟨by simp, by rw [HN.out]; kernel_rfl⟩), Lib.hid (FW.out.trans (by (repeat' first | with_reducible exact Fresh.refl _ | with_reducible assumption | with_reducible refine Fresh.alloc ?_ _ _ | with_reducible refine Fresh.drew ?_ | with_reducible refine Fresh.drewN ?_ _ | with_reducible refine Fresh.setCell ?_ ?_ _ | with_reducible refine Fresh.trans ?_ (by assumption) | (simp; done) | (simp; omega))))⟩
          case measure => simp [intOf, strLen, ByteArray.size]
        · have hl1 : l.isEmpty = false := by cases l <;> simp_all
          have HN : Hid (l = Lib.decDigits U) := Lib.hid (by
            rcases HI.out with ⟨h, -⟩ | ⟨-, h⟩
            · exact absurd h hl0
            · simpa [pre_zero] using h)
          have c1 : ¬ 9223372036854775807 < 1 + l.length := (by have := HL.out; omega)
          clear hl0
          go_wp2_with fail
          go_returns
          exact ⟨by rw [HN.out]; rfl, FW.out⟩
  · simp only [if_true, if_false, Bool.false_eq_true] at hu
    have hn' : n < 0 := by simpa using hn
    clear hn
    go_enter Tryd.func57, Tryd.ntmps57
    go_wp2_with fail
    go_loopw [3, 4] (fun u s wr => ∃ (v : Nat) (l : List UInt8), u = .int .u64 v ∧ s = .string ⟨l.toArray⟩ ∧ v ≤ U ∧ Hid ((l = [] ∧ v = U) ∨ (l ≠ [] ∧ preD v ++ l = Lib.decDigits U)) ∧ Hid (Fresh w wr)) (fun u s _ => 2 * (intOf u).toNat + (1 - strLen s))
    case atStart => exact ⟨U, [], by simp, rfl, Nat.le_refl _, Lib.hid (Or.inl ⟨rfl, rfl⟩), Lib.hid (Fresh.refl w)⟩
    case round =>
      obtain ⟨v, l, rfl, rfl, hv, HI, FW⟩ := hrel
      clear hu
      have HL : Hid (l.length ≤ 20) := Lib.hid (by
        rcases HI.out with ⟨rfl, -⟩ | ⟨-, h⟩
        · simp
        · have h2 := HD.out
          rw [← h, List.length_append] at h2
          omega)
      by_cases hv0 : 0 < v
      · have hlt0 : (0 : Int) < (v : Int) := by omega
        have HN : Hid (preD (v / 10) ++ ([UInt8.ofNat (48 + v % 10)] ++ l) = Lib.decDigits U) := Lib.hid (by
          rcases HI.out with ⟨rfl, rfl⟩ | ⟨-, h⟩
          · rw [← dec_step hv0]; simp [preD, show v ≠ 0 by omega]
          · rw [← dec_step hv0]; exact h)
        have dv := dig_val v
        have DV := Lib.hid dv
        clear dv
        generalize UInt8.ofNat (48 + v % 10) = d at *
        have cv := back_one (wr.alloc (.cells #[.int .u8 (48 + (v : Int) % 10)] 5)) d 1 wr.heap.size (by rw [cell_one, DV.out])
        have c1 : ¬ 9223372036854775807 < 1 + l.length := (by have := HL.out; omega)
        have ca : (⟨#[d]⟩ : ByteArray) ++ ⟨l.toArray⟩ = ⟨(d :: l).toArray⟩ := eqB (by rw [catB]; rfl)
        have CA := Lib.hid ca
        clear ca
        have ew : IntKind.u64.wrap ((v : Int) / 10) = ((v / 10 : Nat) : Int) := (by rw [IntKind.wrap_u64]; have := HLT.out; omega)
        go_wp2_with fail
        rw [CA.out]
        go_roundw
        case rel => exact ⟨v / 10, d :: l, by first | rfl | (rw [ew]; done) | go_num, rfl, by omega, Lib.hid (Or.inr ⟨by simp, HN.out⟩), Lib.hid (FW.out.trans (by (repeat' first | with_reducible exact Fresh.refl _ | with_reducible assumption | with_reducible refine Fresh.alloc ?_ _ _ | with_reducible refine Fresh.drew ?_ | with_reducible refine Fresh.drewN ?_ _ | with_reducible refine Fresh.setCell ?_ ?_ _ | with_reducible refine Fresh.trans ?_ (by assumption) | (simp; done) | (simp; omega))))⟩
        case measure => simp [intOf, strLen]; omega
      · obtain rfl : v = 0 := by omega
        by_cases hl0 : l = []
        · subst hl0
          have HN : Hid (U = 0) := Lib.hid (by
            rcases HI.out with ⟨-, h⟩ | ⟨h, -⟩
            · exact h.symm
            · exact absurd rfl h)
          have cv := back_one (wr.alloc (.cells #[.int .u8 48] 5)) 48 1 wr.heap.size (by rw [cell_one]; rfl)
          go_wp2_with fail
          go_roundw
          case rel => exact ⟨0, [48], rfl, rfl, by omega, Lib.hid (Or.inr ⟨by simp, by rw [HN.out]; kernel_rfl⟩), Lib.hid (FW.out.trans (by (repeat' first | with_reducible exact Fresh.refl _ | with_reducible assumption | with_reducible refine Fresh.alloc ?_ _ _ | with_reducible refine Fresh.drew ?_ | with_reducible refine Fresh.drewN ?_ _ | with_reducible refine Fresh.setCell ?_ ?_ _ | with_reducible refine Fresh.trans ?_ (by assumption) | (simp; done) | (simp; omega))))⟩
          case measure => simp [intOf, strLen, ByteArray.size]
        · have hl1 : l.isEmpty = false := by cases l <;> simp_all
          have HN : Hid (l = Lib.decDigits U) := Lib.hid (by
            rcases HI.out with ⟨h, -⟩ | ⟨-, h⟩
            · exact absurd h hl0
            · simpa [pre_zero] using h)
          have c1 : ¬ 9223372036854775807 < 1 + l.length := (by have := HL.out; omega)
          clear hl0
          go_wp2_with fail
          go_returns
          exact ⟨by rw [eqB (a := (⟨#[45]⟩ : ByteArray) ++ ⟨l.toArray⟩) (catB _ _), HN.out]; rfl, FW.out⟩
theorem decimal_any (n : Int) (h : -9223372036854775808 ≤ n ∧ n ≤ 9223372036854775807) (w : World) : Calls Tryd.prog 57 #[.int .i64 n] w fun e w' => e = .returned (.string ⟨(Lib.itoa n).toArray⟩) ∧ Fresh w w' := by
  by_cases hn : n < 0
  · have := decimal_nat n n.natAbs true (by omega) (by simp only [if_true]; rw [IntKind.wrap_u64, IntKind.wrap_u64]; omega) (by simpa using hn) w
    unfold Lib.itoa
    rw [if_pos hn]
    exact this
  · have := decimal_nat n n.toNat false (by omega) (by simp only [Bool.false_eq_true, if_false]; rw [IntKind.wrap_u64]; omega) (by simpa using hn) w
    unfold Lib.itoa
    rw [if_neg hn]
    exact this
end Go.Proofs.YteiomcbphbbpkaaDoor
/- How the reference writes a type: all but functions. -/
namespace Go.Proofs.YteiomcbphbbpkaaDoor
set_option linter.unusedSimpArgs false
set_option linter.unusedVariables false
set_option linter.unusedSectionVars false
open Go.RowKit

def TxSpec (h : Hd) (ks : Tys) : Prop := ∀ (ok : Nat → Prop) (p : Option Addr) (n cap : Nat) (w0 w : World), Fresh w0 w → Kids ok w0 ks p n cap → (txtT h ks.txts).length ≤ 225179981361972 →
  Calls Tryd.prog 19 #[.agg #[.int .i64 h.kind, .int .i64 h.size, .int .i64 h.len, .bool h.flag, .string h.name, .slice p n cap]] w fun e w' => e = .returned (.string ⟨(txtT h ks.txts).toArray⟩) ∧ Fresh w w'
def AllTx : Tys → Prop
  | .nil => True
  | .cons h k r => TxSpec h k ∧ AllTx r
theorem catA (a b : List UInt8) : (⟨a.toArray⟩ : ByteArray) ++ ⟨b.toArray⟩ = ⟨(a ++ b).toArray⟩ := eqB (by rw [catB])
theorem catL (a : List UInt8) (b : ByteArray) : (⟨a.toArray⟩ : ByteArray) ++ b = ⟨(a ++ b.data.toList).toArray⟩ := eqB (by rw [catB])
theorem catR (a : ByteArray) (b : List UInt8) : a ++ (⟨b.toArray⟩ : ByteArray) = ⟨(a.data.toList ++ b).toArray⟩ := eqB (by rw [catB])
section
variable {ok : Nat → Prop} (h : Hd) (ks : Tys) (p : Option Addr) (n cap : Nat) (w0 w : World)
theorem textR_0 (hk : h.kind = 0) : Calls Tryd.prog 19 #[.agg #[.int .i64 h.kind, .int .i64 h.size, .int .i64 h.len, .bool h.flag, .string h.name, .slice p n cap]] w fun e w' => e = .returned (.string ⟨#[63]⟩) ∧ Fresh w w' := by
  have HKD := Lib.hid hk
  clear hk
  have kk1 : (h.kind == 1) = false := by rw [HKD.out]; rfl
  have kk3 : (h.kind == 3) = false := by rw [HKD.out]; rfl
  have kk2 : (h.kind == 2) = false := by rw [HKD.out]; rfl
  have kk4 : (h.kind == 4) = false := by rw [HKD.out]; rfl
  have kk5 : (h.kind == 5) = false := by rw [HKD.out]; rfl
  have kk6 : (h.kind == 6) = false := by rw [HKD.out]; rfl
  have kk7 : (h.kind == 7) = false := by rw [HKD.out]; rfl
  go_enter Tryd.func19, Tryd.ntmps19
  go_wp2_with fail
  go_returns
  exact ⟨rfl, (by (repeat' first | with_reducible exact Fresh.refl _ | with_reducible assumption | with_reducible refine Fresh.alloc ?_ _ _ | with_reducible refine Fresh.drew ?_ | with_reducible refine Fresh.drewN ?_ _ | with_reducible refine Fresh.setCell ?_ ?_ _ | with_reducible refine Fresh.trans ?_ (by assumption) | (simp; done) | (simp; omega)))⟩
theorem textR_1 (hk : h.kind = 1) : Calls Tryd.prog 19 #[.agg #[.int .i64 h.kind, .int .i64 h.size, .int .i64 h.len, .bool h.flag, .string h.name, .slice p n cap]] w fun e w' => e = .returned (.string ⟨#[118, 111, 105, 100]⟩) ∧ Fresh w w' := by
  have HKD := Lib.hid hk
  clear hk
  have kk1 : (h.kind == 1) = true := by rw [HKD.out]; rfl
  have kk3 : (h.kind == 3) = false := by rw [HKD.out]; rfl
  have kk2 : (h.kind == 2) = false := by rw [HKD.out]; rfl
  have kk4 : (h.kind == 4) = false := by rw [HKD.out]; rfl
  have kk5 : (h.kind == 5) = false := by rw [HKD.out]; rfl
  have kk6 : (h.kind == 6) = false := by rw [HKD.out]; rfl
  have kk7 : (h.kind == 7) = false := by rw [HKD.out]; rfl
  go_enter Tryd.func19, Tryd.ntmps19
  go_wp2_with fail
  go_returns
  exact ⟨rfl, (by (repeat' first | with_reducible exact Fresh.refl _ | with_reducible assumption | with_reducible refine Fresh.alloc ?_ _ _ | with_reducible refine Fresh.drew ?_ | with_reducible refine Fresh.drewN ?_ _ | with_reducible refine Fresh.setCell ?_ ?_ _ | with_reducible refine Fresh.trans ?_ (by assumption) | (simp; done) | (simp; omega)))⟩
theorem textR_3 (hk : h.kind = 3) : Calls Tryd.prog 19 #[.agg #[.int .i64 h.kind, .int .i64 h.size, .int .i64 h.len, .bool h.flag, .string h.name, .slice p n cap]] w fun e w' => e = .returned (.string ⟨#[100, 111, 117, 98, 108, 101]⟩) ∧ Fresh w w' := by
  have HKD := Lib.hid hk
  clear hk
  have kk1 : (h.kind == 1) = false := by rw [HKD.out]; rfl
  have kk3 : (h.kind == 3) = true := by rw [HKD.out]; rfl
  have kk2 : (h.kind == 2) = false := by rw [HKD.out]; rfl
  have kk4 : (h.kind == 4) = false := by rw [HKD.out]; rfl
  have kk5 : (h.kind == 5) = false := by rw [HKD.out]; rfl
  have kk6 : (h.kind == 6) = false := by rw [HKD.out]; rfl
  have kk7 : (h.kind == 7) = false := by rw [HKD.out]; rfl
  go_enter Tryd.func19, Tryd.ntmps19
  go_wp2_with fail
  go_returns
  exact ⟨rfl, (by (repeat' first | with_reducible exact Fresh.refl _ | with_reducible assumption | with_reducible refine Fresh.alloc ?_ _ _ | with_reducible refine Fresh.drew ?_ | with_reducible refine Fresh.drewN ?_ _ | with_reducible refine Fresh.setCell ?_ ?_ _ | with_reducible refine Fresh.trans ?_ (by assumption) | (simp; done) | (simp; omega)))⟩
theorem textR_2 (hk : h.kind = 2) : Calls Tryd.prog 19 #[.agg #[.int .i64 h.kind, .int .i64 h.size, .int .i64 h.len, .bool h.flag, .string h.name, .slice p n cap]] w fun e w' => e = .returned (.string ⟨(numTxt h.size h.flag).toArray⟩) ∧ Fresh w w' := by
  obtain ⟨k, s, l, f, nm⟩ := h
  simp only at hk
  subst hk
  show Calls _ _ _ _ fun e w' => e = .returned (.string ⟨(numTxt s f).toArray⟩) ∧ Fresh w w'
  by_cases h1 : s = 1
  · subst h1
    cases f
    · skip
      go_enter Tryd.func19, Tryd.ntmps19
      go_wp2_with fail
      go_at_call 53; refine (number_any ⟨2, 1, l, false, nm⟩ p n cap _).mono ?_; rintro e w1 ⟨rfl, h1⟩
      go_wp2_with fail
      go_returns
      exact ⟨rfl, (by (repeat' first | with_reducible exact Fresh.refl _ | with_reducible assumption | with_reducible refine Fresh.alloc ?_ _ _ | with_reducible refine Fresh.drew ?_ | with_reducible refine Fresh.drewN ?_ _ | with_reducible refine Fresh.setCell ?_ ?_ _ | with_reducible refine Fresh.trans ?_ (by assumption) | (simp; done) | (simp; omega)))⟩
    · skip
      go_enter Tryd.func19, Tryd.ntmps19
      go_wp2_with fail
      go_at_call 53; refine (number_any ⟨2, 1, l, true, nm⟩ p n cap _).mono ?_; rintro e w1 ⟨rfl, h1⟩
      go_wp2_with fail
      go_returns
      exact ⟨rfl, (by (repeat' first | with_reducible exact Fresh.refl _ | with_reducible assumption | with_reducible refine Fresh.alloc ?_ _ _ | with_reducible refine Fresh.drew ?_ | with_reducible refine Fresh.drewN ?_ _ | with_reducible refine Fresh.setCell ?_ ?_ _ | with_reducible refine Fresh.trans ?_ (by assumption) | (simp; done) | (simp; omega)))⟩
  by_cases h2 : s = 2
  · subst h2
    cases f
    · skip
      go_enter Tryd.func19, Tryd.ntmps19
      go_wp2_with fail
      go_at_call 53; refine (number_any ⟨2, 2, l, false, nm⟩ p n cap _).mono ?_; rintro e w1 ⟨rfl, h1⟩
      go_wp2_with fail
      go_returns
      exact ⟨rfl, (by (repeat' first | with_reducible exact Fresh.refl _ | with_reducible assumption | with_reducible refine Fresh.alloc ?_ _ _ | with_reducible refine Fresh.drew ?_ | with_reducible refine Fresh.drewN ?_ _ | with_reducible refine Fresh.setCell ?_ ?_ _ | with_reducible refine Fresh.trans ?_ (by assumption) | (simp; done) | (simp; omega)))⟩
    · skip
      go_enter Tryd.func19, Tryd.ntmps19
      go_wp2_with fail
      go_at_call 53; refine (number_any ⟨2, 2, l, true, nm⟩ p n cap _).mono ?_; rintro e w1 ⟨rfl, h1⟩
      go_wp2_with fail
      go_returns
      exact ⟨rfl, (by (repeat' first | with_reducible exact Fresh.refl _ | with_reducible assumption | with_reducible refine Fresh.alloc ?_ _ _ | with_reducible refine Fresh.drew ?_ | with_reducible refine Fresh.drewN ?_ _ | with_reducible refine Fresh.setCell ?_ ?_ _ | with_reducible refine Fresh.trans ?_ (by assumption) | (simp; done) | (simp; omega)))⟩
  by_cases h4 : s = 4
  · subst h4
    cases f
    · skip
      go_enter Tryd.func19, Tryd.ntmps19
      go_wp2_with fail
      go_at_call 53; refine (number_any ⟨2, 4, l, false, nm⟩ p n cap _).mono ?_; rintro e w1 ⟨rfl, h1⟩
      go_wp2_with fail
      go_returns
      exact ⟨rfl, (by (repeat' first | with_reducible exact Fresh.refl _ | with_reducible assumption | with_reducible refine Fresh.alloc ?_ _ _ | with_reducible refine Fresh.drew ?_ | with_reducible refine Fresh.drewN ?_ _ | with_reducible refine Fresh.setCell ?_ ?_ _ | with_reducible refine Fresh.trans ?_ (by assumption) | (simp; done) | (simp; omega)))⟩
    · skip
      go_enter Tryd.func19, Tryd.ntmps19
      go_wp2_with fail
      go_at_call 53; refine (number_any ⟨2, 4, l, true, nm⟩ p n cap _).mono ?_; rintro e w1 ⟨rfl, h1⟩
      go_wp2_with fail
      go_returns
      exact ⟨rfl, (by (repeat' first | with_reducible exact Fresh.refl _ | with_reducible assumption | with_reducible refine Fresh.alloc ?_ _ _ | with_reducible refine Fresh.drew ?_ | with_reducible refine Fresh.drewN ?_ _ | with_reducible refine Fresh.setCell ?_ ?_ _ | with_reducible refine Fresh.trans ?_ (by assumption) | (simp; done) | (simp; omega)))⟩
  by_cases h8 : s = 8
  · subst h8
    cases f
    · skip
      go_enter Tryd.func19, Tryd.ntmps19
      go_wp2_with fail
      go_at_call 53; refine (number_any ⟨2, 8, l, false, nm⟩ p n cap _).mono ?_; rintro e w1 ⟨rfl, h1⟩
      go_wp2_with fail
      go_returns
      exact ⟨rfl, (by (repeat' first | with_reducible exact Fresh.refl _ | with_reducible assumption | with_reducible refine Fresh.alloc ?_ _ _ | with_reducible refine Fresh.drew ?_ | with_reducible refine Fresh.drewN ?_ _ | with_reducible refine Fresh.setCell ?_ ?_ _ | with_reducible refine Fresh.trans ?_ (by assumption) | (simp; done) | (simp; omega)))⟩
    · skip
      go_enter Tryd.func19, Tryd.ntmps19
      go_wp2_with fail
      go_at_call 53; refine (number_any ⟨2, 8, l, true, nm⟩ p n cap _).mono ?_; rintro e w1 ⟨rfl, h1⟩
      go_wp2_with fail
      go_returns
      exact ⟨rfl, (by (repeat' first | with_reducible exact Fresh.refl _ | with_reducible assumption | with_reducible refine Fresh.alloc ?_ _ _ | with_reducible refine Fresh.drew ?_ | with_reducible refine Fresh.drewN ?_ _ | with_reducible refine Fresh.setCell ?_ ?_ _ | with_reducible refine Fresh.trans ?_ (by assumption) | (simp; done) | (simp; omega)))⟩
  have e2 : numTxt s f = [63] := by unfold numTxt; rw [if_neg h1, if_neg h2, if_neg h4, if_neg h8]
  rw [e2]
  have q1 : (s == 1) = false := by simpa using h1
  have q2 : (s == 2) = false := by simpa using h2
  have q4 : (s == 4) = false := by simpa using h4
  have q8 : (s == 8) = false := by simpa using h8
  clear h1 h2 h4 h8 e2
  cases f
  · skip
    go_enter Tryd.func19, Tryd.ntmps19
    go_wp2_with fail
    go_at_call 53; refine (number_any ⟨2, s, l, false, nm⟩ p n cap _).mono ?_; rintro e w1 ⟨rfl, h1⟩
    go_wp2_with fail
    go_returns
    exact ⟨rfl, (by (repeat' first | with_reducible exact Fresh.refl _ | with_reducible assumption | with_reducible refine Fresh.alloc ?_ _ _ | with_reducible refine Fresh.drew ?_ | with_reducible refine Fresh.drewN ?_ _ | with_reducible refine Fresh.setCell ?_ ?_ _ | with_reducible refine Fresh.trans ?_ (by assumption) | (simp; done) | (simp; omega)))⟩
  · skip
    go_enter Tryd.func19, Tryd.ntmps19
    go_wp2_with fail
    go_at_call 53; refine (number_any ⟨2, s, l, true, nm⟩ p n cap _).mono ?_; rintro e w1 ⟨rfl, h1⟩
    go_wp2_with fail
    go_returns
    exact ⟨rfl, (by (repeat' first | with_reducible exact Fresh.refl _ | with_reducible assumption | with_reducible refine Fresh.alloc ?_ _ _ | with_reducible refine Fresh.drew ?_ | with_reducible refine Fresh.drewN ?_ _ | with_reducible refine Fresh.setCell ?_ ?_ _ | with_reducible refine Fresh.trans ?_ (by assumption) | (simp; done) | (simp; omega)))⟩
theorem textR_6 (hk : h.kind = 6) (hs : h.name.size ≤ 225179981361972) : Calls Tryd.prog 19 #[.agg #[.int .i64 h.kind, .int .i64 h.size, .int .i64 h.len, .bool h.flag, .string h.name, .slice p n cap]] w fun e w' => e = .returned (.string ⟨(recTxt h.name h.flag).toArray⟩) ∧ Fresh w w' := by
  have HKD := Lib.hid hk
  rw [← recB_txt, ← eqB (a := recB h.name h.flag) rfl]
  clear hk
  have kk1 : (h.kind == 1) = false := by rw [HKD.out]; rfl
  have kk3 : (h.kind == 3) = false := by rw [HKD.out]; rfl
  have kk2 : (h.kind == 2) = false := by rw [HKD.out]; rfl
  have kk4 : (h.kind == 4) = false := by rw [HKD.out]; rfl
  have kk5 : (h.kind == 5) = false := by rw [HKD.out]; rfl
  have kk6 : (h.kind == 6) = true := by rw [HKD.out]; rfl
  have kk7 : (h.kind == 7) = false := by rw [HKD.out]; rfl
  obtain ⟨k, s, l, f, nm⟩ := h
  simp only at hs
  have c1 : ¬ 9223372036854775807 < 7 + nm.size := by omega
  have c2 : ¬ 9223372036854775807 < 6 + nm.size := by omega
  cases f
  · go_enter Tryd.func19, Tryd.ntmps19
    go_wp2_with fail
    go_at_call 54; refine (record_any ⟨k, s, l, false, nm⟩ p n cap _).mono ?_; rintro e w1 ⟨rfl, h1⟩
    go_wp2_with fail
    go_returns
    exact ⟨rfl, (by (repeat' first | with_reducible exact Fresh.refl _ | with_reducible assumption | with_reducible refine Fresh.alloc ?_ _ _ | with_reducible refine Fresh.drew ?_ | with_reducible refine Fresh.drewN ?_ _ | with_reducible refine Fresh.setCell ?_ ?_ _ | with_reducible refine Fresh.trans ?_ (by assumption) | (simp; done) | (simp; omega)))⟩
  · go_enter Tryd.func19, Tryd.ntmps19
    go_wp2_with fail
    go_at_call 54; refine (record_any ⟨k, s, l, true, nm⟩ p n cap _).mono ?_; rintro e w1 ⟨rfl, h1⟩
    go_wp2_with fail
    go_returns
    exact ⟨rfl, (by (repeat' first | with_reducible exact Fresh.refl _ | with_reducible assumption | with_reducible refine Fresh.alloc ?_ _ _ | with_reducible refine Fresh.drew ?_ | with_reducible refine Fresh.drewN ?_ _ | with_reducible refine Fresh.setCell ?_ ?_ _ | with_reducible refine Fresh.trans ?_ (by assumption) | (simp; done) | (simp; omega)))⟩
variable (hf : Fresh w0 w) (hks : Kids ok w0 ks p n cap) (t1 : List UInt8) (kid : ∀ (X : World) (p' : Option Addr) (n' cap' : Nat), Fresh w0 X → Kids ok w0 ks.kids p' n' cap' → Calls Tryd.prog 19 #[.agg #[.int .i64 ks.hd.kind, .int .i64 ks.hd.size, .int .i64 ks.hd.len, .bool ks.hd.flag, .string ks.hd.name, .slice p' n' cap']] X fun e w' => e = .returned (.string ⟨t1.toArray⟩) ∧ Fresh X w')
include hf hks kid
set_option maxRecDepth 100000 in
set_option maxHeartbeats 4000000 in
theorem textR_4 (hk : h.kind = 4) (hl : t1.length ≤ 225179981361972) : Calls Tryd.prog 19 #[.agg #[.int .i64 h.kind, .int .i64 h.size, .int .i64 h.len, .bool h.flag, .string h.name, .slice p n cap]] w fun e w' => e = .returned (.string ⟨(t1 ++ [42]).toArray⟩) ∧ Fresh w w' := by
  have HKD := Lib.hid hk
  have HK := Lib.hid hks
  have HF := Lib.hid hf
  have KID := Lib.hid kid
  clear hk hks hf kid
  have kk1 : (h.kind == 1) = false := by rw [HKD.out]; rfl
  have kk3 : (h.kind == 3) = false := by rw [HKD.out]; rfl
  have kk2 : (h.kind == 2) = false := by rw [HKD.out]; rfl
  have kk4 : (h.kind == 4) = true := by rw [HKD.out]; rfl
  have kk5 : (h.kind == 5) = false := by rw [HKD.out]; rfl
  have kk6 : (h.kind == 6) = false := by rw [HKD.out]; rfl
  have kk7 : (h.kind == 7) = false := by rw [HKD.out]; rfl
  go_enter Tryd.func19, Tryd.ntmps19
  go_wp2_with fail
  go_at_call 50; refine (pointer_any h ks p n cap _ w0 (HF.out.trans (by (repeat' first | with_reducible exact Fresh.refl _ | with_reducible assumption | with_reducible refine Fresh.alloc ?_ _ _ | with_reducible refine Fresh.drew ?_ | with_reducible refine Fresh.drewN ?_ _ | with_reducible refine Fresh.setCell ?_ ?_ _ | with_reducible refine Fresh.trans ?_ (by assumption) | (simp; done) | (simp; omega)))) HK.out).mono ?_; rintro e w1 ⟨⟨p1, n1, cap1, rfl, hk1⟩, h1⟩; have HK1 := Lib.hid hk1; clear hk1
  have H1 := Lib.hid (show Fresh w w1 from (by (repeat' first | with_reducible exact Fresh.refl _ | with_reducible assumption | with_reducible refine Fresh.alloc ?_ _ _ | with_reducible refine Fresh.drew ?_ | with_reducible refine Fresh.drewN ?_ _ | with_reducible refine Fresh.setCell ?_ ?_ _ | with_reducible refine Fresh.trans ?_ (by assumption) | (simp; done) | (simp; omega))))
  clear h1
  go_wp2_with fail
  go_at_call 19; refine (KID.out _ p1 n1 cap1 (HF.out.trans (H1.out.trans (by (repeat' first | with_reducible exact Fresh.refl _ | with_reducible assumption | with_reducible refine Fresh.alloc ?_ _ _ | with_reducible refine Fresh.drew ?_ | with_reducible refine Fresh.drewN ?_ _ | with_reducible refine Fresh.setCell ?_ ?_ _ | with_reducible refine Fresh.trans ?_ (by assumption) | (simp; done) | (simp; omega))))) HK1.out).mono ?_; rintro e w2 ⟨rfl, h2⟩
  have c1 : ¬ 9223372036854775807 < t1.length + 1 := (by omega)
  go_wp2_with fail
  go_returns
  exact ⟨by rw [← catA]; rfl, H1.out.trans (by (repeat' first | with_reducible exact Fresh.refl _ | with_reducible assumption | with_reducible refine Fresh.alloc ?_ _ _ | with_reducible refine Fresh.drew ?_ | with_reducible refine Fresh.drewN ?_ _ | with_reducible refine Fresh.setCell ?_ ?_ _ | with_reducible refine Fresh.trans ?_ (by assumption) | (simp; done) | (simp; omega)))⟩
set_option maxRecDepth 100000 in
set_option maxHeartbeats 4000000 in
theorem textR_5 (hk : h.kind = 5) (hlen : HdL h) (hl : t1.length ≤ 225179981361972) : Calls Tryd.prog 19 #[.agg #[.int .i64 h.kind, .int .i64 h.size, .int .i64 h.len, .bool h.flag, .string h.name, .slice p n cap]] w fun e w' => e = .returned (.string ⟨(t1 ++ ([91] ++ Lib.itoa h.len ++ [93])).toArray⟩) ∧ Fresh w w' := by
  have HKD := Lib.hid hk
  have HK := Lib.hid hks
  have HF := Lib.hid hf
  have KID := Lib.hid kid
  have HN := Lib.hid hlen
  clear hk hks hf kid hlen
  have kk1 : (h.kind == 1) = false := by rw [HKD.out]; rfl
  have kk3 : (h.kind == 3) = false := by rw [HKD.out]; rfl
  have kk2 : (h.kind == 2) = false := by rw [HKD.out]; rfl
  have kk4 : (h.kind == 4) = false := by rw [HKD.out]; rfl
  have kk5 : (h.kind == 5) = true := by rw [HKD.out]; rfl
  have kk6 : (h.kind == 6) = false := by rw [HKD.out]; rfl
  have kk7 : (h.kind == 7) = false := by rw [HKD.out]; rfl
  go_enter Tryd.func19, Tryd.ntmps19
  go_wp2_with fail
  go_at_call 51; refine (array_any h ks p n cap _ w0 (HF.out.trans (by (repeat' first | with_reducible exact Fresh.refl _ | with_reducible assumption | with_reducible refine Fresh.alloc ?_ _ _ | with_reducible refine Fresh.drew ?_ | with_reducible refine Fresh.drewN ?_ _ | with_reducible refine Fresh.setCell ?_ ?_ _ | with_reducible refine Fresh.trans ?_ (by assumption) | (simp; done) | (simp; omega)))) HK.out).mono ?_; rintro e w1 ⟨⟨p1, n1, cap1, rfl, hk1⟩, h1⟩; have HK1 := Lib.hid hk1; clear hk1
  have H1 := Lib.hid (show Fresh w w1 from (by (repeat' first | with_reducible exact Fresh.refl _ | with_reducible assumption | with_reducible refine Fresh.alloc ?_ _ _ | with_reducible refine Fresh.drew ?_ | with_reducible refine Fresh.drewN ?_ _ | with_reducible refine Fresh.setCell ?_ ?_ _ | with_reducible refine Fresh.trans ?_ (by assumption) | (simp; done) | (simp; omega))))
  clear h1 kk1 kk2 kk3 kk4 kk5 kk6 kk7
  go_upto_region 25 with fail
  have T6 : Hid (Blk (w1.alloc (.cells #[.int .i64 ks.hd.kind, .int .i64 ks.hd.size, .int .i64 ks.hd.len, .bool ks.hd.flag, .string ks.hd.name, .slice p1 n1 cap1, .int .i64 h.len] 69)) w1.heap.size [.int .i64 ks.hd.kind, .int .i64 ks.hd.size, .int .i64 ks.hd.len, .bool ks.hd.flag, .string ks.hd.name, .slice p1 n1 cap1, .int .i64 h.len]) := Lib.hid (Blk.new w1 #[.int .i64 ks.hd.kind, .int .i64 ks.hd.size, .int .i64 ks.hd.len, .bool ks.hd.flag, .string ks.hd.name, .slice p1 n1 cap1, .int .i64 h.len] 69)
  have HW : Hid (Fresh w (w1.alloc (.cells #[.int .i64 ks.hd.kind, .int .i64 ks.hd.size, .int .i64 ks.hd.len, .bool ks.hd.flag, .string ks.hd.name, .slice p1 n1 cap1, .int .i64 h.len] 69))) := Lib.hid (H1.out.trans (by (repeat' first | with_reducible exact Fresh.refl _ | with_reducible assumption | with_reducible refine Fresh.alloc ?_ _ _ | with_reducible refine Fresh.drew ?_ | with_reducible refine Fresh.drewN ?_ _ | with_reducible refine Fresh.setCell ?_ ?_ _ | with_reducible refine Fresh.trans ?_ (by assumption) | (simp; done) | (simp; omega))))
  have HI := Lib.hid (Lib.itoa_length_le h.len HN.out.1 HN.out.2)
  have HN3 : Hid (-9223372036854775808 ≤ h.len ∧ h.len ≤ 9223372036854775807) := Lib.hid HN.out
  generalize (w1.alloc (.cells #[.int .i64 ks.hd.kind, .int .i64 ks.hd.size, .int .i64 ks.hd.len, .bool ks.hd.flag, .string ks.hd.name, .slice p1 n1 cap1, .int .i64 h.len] 69)) = W at *
  generalize w1.heap.size = b6 at *
  have c1 : ¬ 9223372036854775807 < t1.length + 1 := (by omega)
  have c2 : ¬ 9223372036854775807 < t1.length + 1 + (Lib.itoa h.len).length := (by have := HI.out; omega)
  have c3 : ¬ 9223372036854775807 < t1.length + 1 + (Lib.itoa h.len).length + 1 := (by have := HI.out; omega)
  have E : Hid (Fresh W W.drew) := Lib.hid (Fresh.refl W).drew
  go_region_held3 (fun w' => w'.cell? ⟨b6, 0, none⟩ = some (.int .i64 ks.hd.kind) ∧ w'.cell? ⟨b6, 1, none⟩ = some (.int .i64 ks.hd.size) ∧ w'.cell? ⟨b6, 2, none⟩ = some (.int .i64 ks.hd.len) ∧ w'.cell? ⟨b6, 3, none⟩ = some (.bool ks.hd.flag) ∧ w'.cell? ⟨b6, 4, none⟩ = some (.string ks.hd.name) ∧ w'.cell? ⟨b6, 5, none⟩ = some (.slice p1 n1 cap1) ∧ w'.cell? ⟨b6, 6, none⟩ = some (.int .i64 h.len))     (first | done | exact ⟨(T6.out.fresh E.out).1 0 _ rfl, (T6.out.fresh E.out).1 1 _ rfl, (T6.out.fresh E.out).1 2 _ rfl, (T6.out.fresh E.out).1 3 _ rfl, (T6.out.fresh E.out).1 4 _ rfl, (T6.out.fresh E.out).1 5 _ rfl, (T6.out.fresh E.out).1 6 _ rfl⟩)     (first | (go_at_call 19; (with_reducible refine (KID.out _ p1 n1 cap1 (HF.out.trans (HW.out.trans E.out)) HK1.out).mono ?_); rintro e w2 ⟨rfl, h2⟩; have E := Lib.hid (E.out.trans h2); clear h2) | (go_at_call 57; (with_reducible refine (decimal_any h.len HN3.out _).mono ?_); rintro e w3 ⟨rfl, h3⟩; have E := Lib.hid (E.out.trans h3); clear h3))
  all_goals
    go_wp2_with fail
    go_returns
    refine ⟨?_, HW.out.trans E.out⟩
    rw [catL, catL, catL]
    simp
end
end Go.Proofs.YteiomcbphbbpkaaDoor
/- How the reference writes a function; and every type. -/
namespace Go.Proofs.YteiomcbphbbpkaaDoor
set_option linter.unusedSimpArgs false
set_option linter.unusedVariables false
set_option linter.unusedSectionVars false
open Go.RowKit
section
variable {ok : Nat → Prop} (h : Hd) (ks : Tys) (p : Option Addr) (n cap : Nat) (w0 w : World) (hf : Fresh w0 w) (hks : Kids ok w0 ks p n cap) (t1 : List UInt8) (kid : ∀ (X : World) (p' : Option Addr) (n' cap' : Nat), Fresh w0 X → Kids ok w0 ks.kids p' n' cap' → Calls Tryd.prog 19 #[.agg #[.int .i64 ks.hd.kind, .int .i64 ks.hd.size, .int .i64 ks.hd.len, .bool ks.hd.flag, .string ks.hd.name, .slice p' n' cap']] X fun e w' => e = .returned (.string ⟨t1.toArray⟩) ∧ Fresh X w')
include hf hks kid
set_option maxRecDepth 100000 in
set_option maxHeartbeats 4000000 in
theorem textR_7 (hk : h.kind = 7) (hall : AllTx ks.rest) (hl : (t1 ++ [40] ++ joinF true ks.rest.txts).length ≤ 225179981361972) :
    Calls Tryd.prog 19 #[.agg #[.int .i64 h.kind, .int .i64 h.size, .int .i64 h.len, .bool h.flag, .string h.name, .slice p n cap]] w fun e w' => e = .returned (.string ⟨(t1 ++ [40] ++ joinF true ks.rest.txts ++ [41]).toArray⟩) ∧ Fresh w w' := by
  have HKD := Lib.hid hk
  have HK := Lib.hid hks
  have HF := Lib.hid hf
  have KID := Lib.hid kid
  have HAL := Lib.hid hall
  have HL := Lib.hid hl
  have ct : ¬ 9223372036854775807 < t1.length + 1 := (by simp at hl; omega)
  clear hk hks hf kid hall hl
  have kk1 : (h.kind == 1) = false := by rw [HKD.out]; rfl
  have kk3 : (h.kind == 3) = false := by rw [HKD.out]; rfl
  have kk2 : (h.kind == 2) = false := by rw [HKD.out]; rfl
  have kk4 : (h.kind == 4) = false := by rw [HKD.out]; rfl
  have kk5 : (h.kind == 5) = false := by rw [HKD.out]; rfl
  have kk6 : (h.kind == 6) = false := by rw [HKD.out]; rfl
  have kk7 : (h.kind == 7) = true := by rw [HKD.out]; rfl
  go_enter Tryd.func19, Tryd.ntmps19
  go_wp2_with fail
  go_at_call 52; refine (function_any h ks p n cap _ w0 (HF.out.trans (by (repeat' first | with_reducible exact Fresh.refl _ | with_reducible assumption | with_reducible refine Fresh.alloc ?_ _ _ | with_reducible refine Fresh.drew ?_ | with_reducible refine Fresh.drewN ?_ _ | with_reducible refine Fresh.setCell ?_ ?_ _ | with_reducible refine Fresh.trans ?_ (by assumption) | (simp; done) | (simp; omega)))) HK.out).mono ?_; rintro e w1 ⟨⟨p1, n1, cap1, p2, n2, cap2, rfl, hk1, hk2⟩, h1⟩; have HK1 := Lib.hid hk1; have HK2 := Lib.hid hk2; clear hk1 hk2
  have H1 := Lib.hid (show Fresh w w1 from (by (repeat' first | with_reducible exact Fresh.refl _ | with_reducible assumption | with_reducible refine Fresh.alloc ?_ _ _ | with_reducible refine Fresh.drew ?_ | with_reducible refine Fresh.drewN ?_ _ | with_reducible refine Fresh.setCell ?_ ?_ _ | with_reducible refine Fresh.trans ?_ (by assumption) | (simp; done) | (simp; omega))))
  clear h1 kk1 kk2 kk3 kk4 kk5 kk6 kk7
  go_wp2_with fail
  have T6 := Lib.hid (Blk.new w1 #[.int .i64 ks.hd.kind, .int .i64 ks.hd.size, .int .i64 ks.hd.len, .bool ks.hd.flag, .string ks.hd.name, .slice p1 n1 cap1, .slice p2 n2 cap2] 85)
  go_at_call 19; refine (KID.out _ p1 n1 cap1 (HF.out.trans (H1.out.trans (by (repeat' first | with_reducible exact Fresh.refl _ | with_reducible assumption | with_reducible refine Fresh.alloc ?_ _ _ | with_reducible refine Fresh.drew ?_ | with_reducible refine Fresh.drewN ?_ _ | with_reducible refine Fresh.setCell ?_ ?_ _ | with_reducible refine Fresh.trans ?_ (by assumption) | (simp; done) | (simp; omega))))) HK1.out).mono ?_; rintro e w2 ⟨rfl, h2⟩
  have T6 := Lib.hid (T6.out.fresh h2)
  have H2 := Lib.hid (H1.out.trans (show Fresh w1 w2 from (by (repeat' first | with_reducible exact Fresh.refl _ | with_reducible assumption | with_reducible refine Fresh.alloc ?_ _ _ | with_reducible refine Fresh.drew ?_ | with_reducible refine Fresh.drewN ?_ _ | with_reducible refine Fresh.setCell ?_ ?_ _ | with_reducible refine Fresh.trans ?_ (by assumption) | (simp; done) | (simp; omega)))))
  clear h2
  have HN := Lib.hid HK2.out.1
  have hcap : cap2 ≤ 9223372036854775807 := HK2.out.2.2.1
  have hnc : n2 ≤ cap2 := HK2.out.2.1
  obtain ⟨xs, hx, hxl, hxp⟩ := HK2.out.cells
  have HP1 : Hid (n2 = 0 ∨ ∃ B off, p2 = some ⟨B, off, none⟩) := Lib.hid (by
    rcases hxp with ⟨-, h, -⟩ | ⟨B, off, e, -⟩
    · exact Or.inl h
    · exact Or.inr ⟨B, off, e⟩)
  have R1 : Hid (RestAt w0 p2 0 xs) := Lib.hid (by
    intro B off e j u hu
    rcases hxp with ⟨e', -⟩ | ⟨B', off', e', h⟩
    · rw [e] at e'; cases e'
    · rw [e] at e'; cases e'
      have := h j u hu
      rw [Go.WideShapes.add_plain] at this
      simpa using this)
  have HX := Lib.hid hx
  clear hx hxl hxp
  have ca : (⟨t1.toArray⟩ : ByteArray) ++ ⟨#[40]⟩ = ⟨(t1 ++ [40]).toArray⟩ := eqB (by rw [catB])
  have CA := Lib.hid ca
  clear ca
  go_wp2_with fail
  rw [CA.out]
  go_loopw [9, 10] (fun v i wr => ∃ (k : Nat) (r1 : Tys) (zs1 : List Value) (acc : List UInt8), k ≤ n2 ∧ i = .int .i64 k ∧ v = .string ⟨acc.toArray⟩ ∧ Hid (t1 ++ [40] ++ joinF true ks.rest.txts = acc ++ joinF (decide (k = 0)) r1.txts ∧ r1.length = n2 - k ∧ AllTx r1) ∧ Hid (r1.cells ok w0 zs1 ∧ RestAt w0 p2 k zs1) ∧ Hid (Fresh w2 wr)) (fun _ i _ => n2 - (intOf i).toNat)
  case atStart => exact ⟨0, ks.rest, xs, t1 ++ [40], by omega, rfl, rfl, Lib.hid ⟨rfl, HN.out.symm, HAL.out⟩, Lib.hid ⟨HX.out, R1.out⟩, Lib.hid (Fresh.refl w2)⟩
  case round =>
    obtain ⟨k, r1, zs1, acc, hk, rfl, rfl, HI, HC, FW⟩ := hrel
    have g6 := (T6.out.fresh FW.out).1 6 _ rfl
    have gz := cell_lt g6
    simp only at gz
    by_cases hlt : k < n2
    · cases r1 with
      | nil => exfalso; have := HI.out.2.1; simp [Tys.length] at this; omega
      | cons h1 k1 r1' =>
        obtain ⟨⟨q1, m1, c1, zs1', rfl, hk1, hr1⟩, ha1⟩ := HC.out
        obtain ⟨B1, off1, rfl⟩ := HP1.out.resolve_left (by omega)
        obtain ⟨a0, a1, a2, a3, a4, a5, ar⟩ := six_at (ha1 B1 off1 rfl)
        have S1 : Hid (RestAt w0 (some ⟨B1, off1, none⟩) (k + 1) zs1') := Lib.hid (fun B off e j u hu => by
          cases e
          have := ar j u hu
          rwa [show off1 + k * 6 + 6 + j = off1 + (k + 1) * 6 + j by omega] at this)
        have FX := HF.out.trans (H2.out.trans FW.out)
        have a0 := FX.at' a0
        have a1 := FX.at' a1
        have a2 := FX.at' a2
        have a3 := FX.at' a3
        have a4 := FX.at' a4
        have a5 := FX.at' a5
        have az := cell_lt a0
        simp only at az
        have HTL : Hid ((txtT h1 k1.txts).length + acc.length + 2 ≤ 225179981361974) := Lib.hid (by
          have h1 := HL.out
          rw [HI.out.1] at h1
          simp only [Tys.txts, joinF_cons, List.length_append] at h1
          omega)
        have CS : Hid (∀ Y, Fresh w0 Y → Calls Tryd.prog 19 #[.agg #[.int .i64 h1.kind, .int .i64 h1.size, .int .i64 h1.len, .bool h1.flag, .string h1.name, .slice q1 m1 c1]] Y fun e w' => e = .returned (.string ⟨(txtT h1 k1.txts).toArray⟩) ∧ Fresh Y w') := Lib.hid (fun Y hY => HI.out.2.2.1 ok q1 m1 c1 w0 Y hY hk1 (by have := HTL.out; omega))
        have HI2 : Hid (t1 ++ [40] ++ joinF true ks.rest.txts = acc ++ joinF (decide (k = 0)) (txtT h1 k1.txts :: r1'.txts) ∧ r1'.length = n2 - (k + 1) ∧ AllTx r1') := Lib.hid (by
          obtain ⟨i1, i2, i3⟩ := HI.out
          refine ⟨i1, ?_, i3.2⟩
          simp [Tys.length] at i2
          omega)
        have HC2 := Lib.hid hr1
        have hlt' : (k : Int) < (n2 : Int) := by omega
        clear ar ha1 hk1 hr1 HI HC FX
        generalize txtT h1 k1.txts = t at *
        have d1 : ¬ 9223372036854775807 < acc.length + t.length := (by have := HTL.out; omega)
        have d2 : ¬ 9223372036854775807 < acc.length + 2 := (by have := HTL.out; omega)
        have d3 : ¬ 9223372036854775807 < acc.length + 2 + t.length := (by have := HTL.out; omega)
        by_cases h0 : k = 0
        · subst h0
          simp only [Nat.zero_mul, Nat.add_zero] at a0 a1 a2 a3 a4 a5
          have HE : Hid (t1 ++ [40] ++ joinF true ks.rest.txts = acc ++ t ++ joinF false r1'.txts) := Lib.hid (by rw [HI2.out.1, joinF_cons]; simp)
          go_wp2_with fail
          go_at_call 19; refine (CS.out _ (HF.out.trans (H2.out.trans (FW.out.trans (by (repeat' first | with_reducible exact Fresh.refl _ | with_reducible assumption | with_reducible refine Fresh.alloc ?_ _ _ | with_reducible refine Fresh.drew ?_ | with_reducible refine Fresh.drewN ?_ _ | with_reducible refine Fresh.setCell ?_ ?_ _ | with_reducible refine Fresh.trans ?_ (by assumption) | (simp; done) | (simp; omega))))))).mono ?_; rintro e w3 ⟨rfl, h3⟩
          have F1 := Lib.hid (FW.out.trans (show Fresh wr w3 from (by (repeat' first | with_reducible exact Fresh.refl _ | with_reducible assumption | with_reducible refine Fresh.alloc ?_ _ _ | with_reducible refine Fresh.drew ?_ | with_reducible refine Fresh.drewN ?_ _ | with_reducible refine Fresh.setCell ?_ ?_ _ | with_reducible refine Fresh.trans ?_ (by assumption) | (simp; done) | (simp; omega)))))
          clear a0 a1 a2 a3 a4 a5 az h3 CS g6 gz
          go_wp2_with fail
          go_roundw
          case rel => exact ⟨1, r1', zs1', acc ++ t, by omega, by go_num, by rw [← catA], Lib.hid ⟨HE.out, HI2.out.2.1, HI2.out.2.2⟩, Lib.hid ⟨HC2.out, S1.out⟩, F1⟩
          case measure => simp [intOf]; omega
        · have HE : Hid (t1 ++ [40] ++ joinF true ks.rest.txts = acc ++ [44, 32] ++ t ++ joinF false r1'.txts) := Lib.hid (by rw [HI2.out.1, joinF_cons]; simp [h0])
          have hgt : (0 : Int) < (k : Int) := by omega
          have HZ := Lib.hid h0
          clear h0
          go_wp2_with fail
          go_at_call 19; refine (CS.out _ (HF.out.trans (H2.out.trans (FW.out.trans (by (repeat' first | with_reducible exact Fresh.refl _ | with_reducible assumption | with_reducible refine Fresh.alloc ?_ _ _ | with_reducible refine Fresh.drew ?_ | with_reducible refine Fresh.drewN ?_ _ | with_reducible refine Fresh.setCell ?_ ?_ _ | with_reducible refine Fresh.trans ?_ (by assumption) | (simp; done) | (simp; omega))))))).mono ?_; rintro e w3 ⟨rfl, h3⟩
          have F1 := Lib.hid (FW.out.trans (show Fresh wr w3 from (by (repeat' first | with_reducible exact Fresh.refl _ | with_reducible assumption | with_reducible refine Fresh.alloc ?_ _ _ | with_reducible refine Fresh.drew ?_ | with_reducible refine Fresh.drewN ?_ _ | with_reducible refine Fresh.setCell ?_ ?_ _ | with_reducible refine Fresh.trans ?_ (by assumption) | (simp; done) | (simp; omega)))))
          clear a0 a1 a2 a3 a4 a5 az h3 CS g6 gz
          go_wp2_with fail
          go_roundw
          case rel => exact ⟨k + 1, r1', zs1', acc ++ [44, 32] ++ t, by omega, by go_num, by rw [← catA, ← catA], Lib.hid ⟨by rw [HE.out]; rfl, HI2.out.2.1, HI2.out.2.2⟩, Lib.hid ⟨HC2.out, S1.out⟩, F1⟩
          case measure => simp [intOf]; omega
    · obtain rfl : k = n2 := by omega
      have HR : Hid (t1 ++ [40] ++ joinF true ks.rest.txts = acc) := Lib.hid (by
        obtain ⟨i1, i2, -⟩ := HI.out
        cases r1 with
        | nil => simpa [Tys.txts, joinF] using i1
        | cons _ _ _ => simp [Tys.length] at i2)
      have d1 : ¬ 9223372036854775807 < acc.length + 1 := (by have := HL.out; rw [HR.out] at this; omega)
      go_wp2_with fail
      go_returns
      exact ⟨by rw [HR.out, ← catA]; rfl, H2.out.trans FW.out⟩
end
theorem textR_of (a : Hd) (ks : Tys) (hwa : WFh a ks) (hlen : HdL a) (hall : AllTx ks) : TxSpec a ks := by
  intro ok p n cap w0 w hf hks hl
  rcases hwa with ⟨rfl, rfl⟩ | ⟨rfl, rfl⟩ | ⟨s, u, rfl, rfl⟩ | ⟨rfl, rfl⟩ | ⟨rfl, hll⟩ | ⟨l, rfl, hll⟩ | ⟨nm, u, rfl, rfl⟩ | ⟨rfl, hll⟩
  · exact textR_0 Hd.zero p n cap w rfl
  · exact textR_1 (hd1 1) p n cap w rfl
  · exact textR_2 (numHd s u) p n cap w rfl
  · exact textR_3 (hd1 3) p n cap w rfl
  · obtain ⟨a1, k1, rfl⟩ := len1 hll
    rw [txt4] at hl ⊢
    simp only [List.length_append, List.length_cons, List.length_nil] at hl
    exact textR_4 (hd1 4) (.cons a1 k1 .nil) p n cap w0 w hf hks (txtT a1 k1.txts) (fun X p' n' c' hX hk => hall.1 ok p' n' c' w0 X hX hk (by omega)) rfl (by omega)
  · obtain ⟨a1, k1, rfl⟩ := len1 hll
    rw [txt5] at hl ⊢
    simp only [List.length_append, List.length_cons, List.length_nil] at hl
    exact textR_5 (arrHd l) (.cons a1 k1 .nil) p n cap w0 w hf hks (txtT a1 k1.txts) (fun X p' n' c' hX hk => hall.1 ok p' n' c' w0 X hX hk (by omega)) rfl hlen (by omega)
  · refine textR_6 (recHd nm u) p n cap w rfl ?_
    have e : txtT (recHd nm u) (Tys.nil).txts = recTxt nm u := rfl
    rw [e] at hl
    rw [sizeB]
    unfold recTxt at hl
    rw [List.length_append] at hl
    show nm.data.toList.length ≤ _
    omega
  · obtain ⟨a1, k1, r1, rfl⟩ := len_pos hll
    rw [txt7] at hl ⊢
    have hl2 := hl
    simp only [List.length_append, List.length_cons, List.length_nil] at hl2
    exact textR_7 (hd1 7) (.cons a1 k1 r1) p n cap w0 w hf hks (txtT a1 k1.txts) (fun X p' n' c' hX hk => hall.1 ok p' n' c' w0 X hX hk (by omega)) rfl hall.2 (by simp only [List.length_append, List.length_cons, List.length_nil, Tys.rest]; omega)
theorem allTx : ∀ ks : Tys, ks.wf → ks.lens → AllTx ks
  | .nil, _, _ => trivial
  | .cons h k r, hw, hl => ⟨textR_of h k hw.1.1 hl.1.1 (allTx k hw.1.2 hl.1.2), allTx r hw.2 hl.2⟩
/-- THE REFERENCE'S Text. -/
theorem textR_any (h : Hd) (ks : Tys) (hwa : WFh h ks) (hw : ks.wf) (hl : HdL h) (hls : ks.lens) : TxSpec h ks := textR_of h ks hwa hl (allTx ks hw hls)
end Go.Proofs.YteiomcbphbbpkaaDoor
