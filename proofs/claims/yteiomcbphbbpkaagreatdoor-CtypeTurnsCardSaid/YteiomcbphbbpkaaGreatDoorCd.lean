/- Scalars: how they stand in memory, which are pointers, which are reckoned with; types laid by their forms. -/
import Derived.Test.YteiomcbphbbpkaaGreatDoorCc
namespace Go.Proofs.YteiomcbphbbpkaaGreatDoor
set_option linter.unusedSimpArgs false
set_option linter.unusedVariables false
open Go.RowKit
variable {ok : Nat → Prop}


theorem kinds (h : Hd) : h.kind = 1 ∨ h.kind = 2 ∨ h.kind = 3 ∨ h.kind = 4 ∨ h.kind = 5 ∨ h.kind = 6 ∨ h.kind = 7 ∨ (h.kind < 1 ∨ 7 < h.kind) := by omega
def sgn (u : Bool) (a b : Int) : Int := if u then b else a
theorem sign_any (s : Int) (u : Bool) (a b : Int) (w : World) : Calls Tryz.prog 62 #[.agg #[.int .i64 s, .bool u], .int .i64 a, .int .i64 b] w fun e w' => e = .returned (.int .i64 (sgn u a b)) ∧ Fresh w w' := by
  cases u
  all_goals
    go_enter Tryz.func62, Tryz.ntmps62
    go_wp2
    go_returns
    exact ⟨rfl, (by (repeat' first | with_reducible exact Fresh.refl _ | with_reducible assumption | with_reducible refine Fresh.alloc ?_ _ _ | with_reducible refine Fresh.drew ?_ | with_reducible refine Fresh.drewN ?_ _ | with_reducible refine Fresh.setCell ?_ ?_ _ | with_reducible refine Fresh.trans ?_ (by assumption) | (simp; done) | (simp; omega)))⟩
def nchunk (s : Int) (u : Bool) : Int := if s = 1 then sgn u 1 2 else if s = 2 then sgn u 3 4 else if s = 4 then 5 else if s = 8 then 6 else 0
theorem nchunk_any (s : Int) (u : Bool) (w : World) : Calls Tryz.prog 46 #[.agg #[.int .i64 s, .bool u]] w fun e w' => e = .returned (.int .i64 (nchunk s u)) ∧ Fresh w w' := by
  go_enter Tryz.func46, Tryz.ntmps46
  go_wp2_with (first | (go_at_call 62; refine (sign_any _ _ _ _ _).mono ?_; rintro e w1 ⟨rfl, h1⟩))
  all_goals go_returns
  all_goals exact ⟨ret_int (by simp_all [nchunk]), (by (repeat' first | with_reducible exact Fresh.refl _ | with_reducible assumption | with_reducible refine Fresh.alloc ?_ _ _ | with_reducible refine Fresh.drew ?_ | with_reducible refine Fresh.drewN ?_ _ | with_reducible refine Fresh.setCell ?_ ?_ _ | with_reducible refine Fresh.trans ?_ (by assumption) | (simp; done) | (simp; omega)))⟩
def ckind (c : Int) : Int := if c = 1 ∨ c = 2 ∨ c = 3 ∨ c = 4 ∨ c = 5 then 1 else if c = 6 then 2 else if c = 7 then 3 else 0
def csize (c : Int) : Int := if c = 1 ∨ c = 2 then 1 else if c = 3 ∨ c = 4 then 2 else if c = 5 then 4 else if c = 6 ∨ c = 7 then 8 else 0
theorem ckind_any (c : Int) (w : World) : Calls Tryz.prog 28 #[.int .i64 c] w fun e w' => e = .returned (.int .i64 (ckind c)) ∧ Fresh w w' := by
  go_enter Tryz.func28, Tryz.ntmps28
  go_wp2
  all_goals go_returns
  all_goals exact ⟨ret_int (by simp_all [ckind]), (by (repeat' first | with_reducible exact Fresh.refl _ | with_reducible assumption | with_reducible refine Fresh.alloc ?_ _ _ | with_reducible refine Fresh.drew ?_ | with_reducible refine Fresh.drewN ?_ _ | with_reducible refine Fresh.setCell ?_ ?_ _ | with_reducible refine Fresh.trans ?_ (by assumption) | (simp; done) | (simp; omega)))⟩
theorem csize_any (c : Int) (w : World) : Calls Tryz.prog 35 #[.int .i64 c] w fun e w' => e = .returned (.int .i64 (csize c)) ∧ Fresh w w' := by
  go_enter Tryz.func35, Tryz.ntmps35
  go_wp2
  all_goals go_returns
  all_goals exact ⟨ret_int (by simp_all [csize]), (by (repeat' first | with_reducible exact Fresh.refl _ | with_reducible assumption | with_reducible refine Fresh.alloc ?_ _ _ | with_reducible refine Fresh.drew ?_ | with_reducible refine Fresh.drewN ?_ _ | with_reducible refine Fresh.setCell ?_ ?_ _ | with_reducible refine Fresh.trans ?_ (by assumption) | (simp; done) | (simp; omega)))⟩
def chunkOf (h : Hd) : Int := if h.kind = 2 then nchunk h.size h.flag else if h.kind = 3 then 7 else if h.kind = 4 then 6 else 0
def isPtr (h : Hd) : Bool := h.kind == 4
def isArith (h : Hd) : Bool := chunkOf h != 0 && h.kind != 4
attribute [local go_sem] as_87_87 as_87_36 as_87_45 as_87_56 as_87_66 as_87_58 as_87_94 as_36_87 as_36_36 as_36_45 as_36_56 as_36_66 as_36_58 as_36_94 as_45_87 as_45_36 as_45_45 as_45_56 as_45_66 as_45_58 as_45_94 as_56_87 as_56_36 as_56_45 as_56_56 as_56_66 as_56_58 as_56_94 as_66_87 as_66_36 as_66_45 as_66_56 as_66_66 as_66_58 as_66_94 as_58_87 as_58_36 as_58_45 as_58_56 as_58_66 as_58_58 as_58_94 as_94_87 as_94_36 as_94_45 as_94_56 as_94_66 as_94_58 as_94_94 as_nil_87 as_nil_36 as_nil_45 as_nil_56 as_nil_66 as_nil_58 as_nil_94
section
variable (h : Hd) (ks : Tys) (p : Option Addr) (n cap : Nat) (w0 w : World)
variable (hf : Fresh w0 w) (hks : Kids ok w0 ks p n cap)
include hf hks
theorem chunk_any : Calls Tryz.prog 24 #[.agg #[.int .i64 h.kind, .int .i64 h.size, .int .i64 h.len, .bool h.flag, .string h.name, .slice p n cap]] w fun e w' => e = .returned (.int .i64 (chunkOf h)) ∧ Fresh w w' := by
  have HK := Lib.hid hks
  have HF := Lib.hid hf
  clear hks hf
  rcases kinds h with hkd | hkd | hkd | hkd | hkd | hkd | hkd | hkd
  · have HKD := Lib.hid hkd
    have HC : Hid (chunkOf h = 0) := Lib.hid (by unfold chunkOf; rw [if_neg (by omega), if_neg (by omega), if_neg (by omega)])
    clear hkd
    go_enter Tryz.func24, Tryz.ntmps24
    go_wp2_with (first | (go_at_call 32; refine (view1 h p n cap _ HKD.out).mono ?_; rintro e w1 ⟨rfl, h1⟩))
    go_returns
    exact ⟨ret_int HC.out.symm, (by (repeat' first | with_reducible exact Fresh.refl _ | with_reducible assumption | with_reducible refine Fresh.alloc ?_ _ _ | with_reducible refine Fresh.drew ?_ | with_reducible refine Fresh.drewN ?_ _ | with_reducible refine Fresh.setCell ?_ ?_ _ | with_reducible refine Fresh.trans ?_ (by assumption) | (simp; done) | (simp; omega)))⟩
  · have HKD := Lib.hid hkd
    have HC : Hid (chunkOf h = nchunk h.size h.flag) := Lib.hid (by unfold chunkOf; rw [if_pos hkd])
    clear hkd
    go_enter Tryz.func24, Tryz.ntmps24
    go_wp2_with (first | (go_at_call 32; refine (view2 h p n cap _ HKD.out).mono ?_; rintro e w1 ⟨rfl, h1⟩) | (go_at_call 46; refine (nchunk_any _ _ _).mono ?_; rintro e w2 ⟨rfl, h2⟩))
    go_returns
    exact ⟨ret_int HC.out.symm, (by (repeat' first | with_reducible exact Fresh.refl _ | with_reducible assumption | with_reducible refine Fresh.alloc ?_ _ _ | with_reducible refine Fresh.drew ?_ | with_reducible refine Fresh.drewN ?_ _ | with_reducible refine Fresh.setCell ?_ ?_ _ | with_reducible refine Fresh.trans ?_ (by assumption) | (simp; done) | (simp; omega)))⟩
  · have HKD := Lib.hid hkd
    have HC : Hid (chunkOf h = 7) := Lib.hid (by unfold chunkOf; rw [if_neg (by omega), if_pos hkd])
    clear hkd
    go_enter Tryz.func24, Tryz.ntmps24
    go_wp2_with (first | (go_at_call 32; refine (view3 h p n cap _ HKD.out).mono ?_; rintro e w1 ⟨rfl, h1⟩))
    go_returns
    exact ⟨ret_int HC.out.symm, (by (repeat' first | with_reducible exact Fresh.refl _ | with_reducible assumption | with_reducible refine Fresh.alloc ?_ _ _ | with_reducible refine Fresh.drew ?_ | with_reducible refine Fresh.drewN ?_ _ | with_reducible refine Fresh.setCell ?_ ?_ _ | with_reducible refine Fresh.trans ?_ (by assumption) | (simp; done) | (simp; omega)))⟩
  · have HKD := Lib.hid hkd
    have HC : Hid (chunkOf h = 6) := Lib.hid (by unfold chunkOf; rw [if_neg (by omega), if_neg (by omega), if_pos hkd])
    clear hkd
    go_enter Tryz.func24, Tryz.ntmps24
    go_wp2_with (first | (go_at_call 32; refine (view4 h ks p n cap _ w0 (HF.out.trans (by (repeat' first | with_reducible exact Fresh.refl _ | with_reducible assumption | with_reducible refine Fresh.alloc ?_ _ _ | with_reducible refine Fresh.drew ?_ | with_reducible refine Fresh.drewN ?_ _ | with_reducible refine Fresh.setCell ?_ ?_ _ | with_reducible refine Fresh.trans ?_ (by assumption) | (simp; done) | (simp; omega)))) HK.out HKD.out).mono ?_; rintro e w1 ⟨⟨p1, n1, cap1, rfl, hk1⟩, h1⟩; have HK1 := Lib.hid hk1; clear hk1))
    go_returns
    exact ⟨ret_int HC.out.symm, (by (repeat' first | with_reducible exact Fresh.refl _ | with_reducible assumption | with_reducible refine Fresh.alloc ?_ _ _ | with_reducible refine Fresh.drew ?_ | with_reducible refine Fresh.drewN ?_ _ | with_reducible refine Fresh.setCell ?_ ?_ _ | with_reducible refine Fresh.trans ?_ (by assumption) | (simp; done) | (simp; omega)))⟩
  · have HKD := Lib.hid hkd
    have HC : Hid (chunkOf h = 0) := Lib.hid (by unfold chunkOf; rw [if_neg (by omega), if_neg (by omega), if_neg (by omega)])
    clear hkd
    go_enter Tryz.func24, Tryz.ntmps24
    go_wp2_with (first | (go_at_call 32; refine (view5 h ks p n cap _ w0 (HF.out.trans (by (repeat' first | with_reducible exact Fresh.refl _ | with_reducible assumption | with_reducible refine Fresh.alloc ?_ _ _ | with_reducible refine Fresh.drew ?_ | with_reducible refine Fresh.drewN ?_ _ | with_reducible refine Fresh.setCell ?_ ?_ _ | with_reducible refine Fresh.trans ?_ (by assumption) | (simp; done) | (simp; omega)))) HK.out HKD.out).mono ?_; rintro e w1 ⟨⟨p1, n1, cap1, rfl, hk1⟩, h1⟩; have HK1 := Lib.hid hk1; clear hk1))
    go_returns
    exact ⟨ret_int HC.out.symm, (by (repeat' first | with_reducible exact Fresh.refl _ | with_reducible assumption | with_reducible refine Fresh.alloc ?_ _ _ | with_reducible refine Fresh.drew ?_ | with_reducible refine Fresh.drewN ?_ _ | with_reducible refine Fresh.setCell ?_ ?_ _ | with_reducible refine Fresh.trans ?_ (by assumption) | (simp; done) | (simp; omega)))⟩
  · have HKD := Lib.hid hkd
    have HC : Hid (chunkOf h = 0) := Lib.hid (by unfold chunkOf; rw [if_neg (by omega), if_neg (by omega), if_neg (by omega)])
    clear hkd
    go_enter Tryz.func24, Tryz.ntmps24
    go_wp2_with (first | (go_at_call 32; refine (view6 h p n cap _ HKD.out).mono ?_; rintro e w1 ⟨rfl, h1⟩))
    go_returns
    exact ⟨ret_int HC.out.symm, (by (repeat' first | with_reducible exact Fresh.refl _ | with_reducible assumption | with_reducible refine Fresh.alloc ?_ _ _ | with_reducible refine Fresh.drew ?_ | with_reducible refine Fresh.drewN ?_ _ | with_reducible refine Fresh.setCell ?_ ?_ _ | with_reducible refine Fresh.trans ?_ (by assumption) | (simp; done) | (simp; omega)))⟩
  · have HKD := Lib.hid hkd
    have HC : Hid (chunkOf h = 0) := Lib.hid (by unfold chunkOf; rw [if_neg (by omega), if_neg (by omega), if_neg (by omega)])
    clear hkd
    go_enter Tryz.func24, Tryz.ntmps24
    go_wp2_with (first | (go_at_call 32; refine (view7 h ks p n cap _ w0 (HF.out.trans (by (repeat' first | with_reducible exact Fresh.refl _ | with_reducible assumption | with_reducible refine Fresh.alloc ?_ _ _ | with_reducible refine Fresh.drew ?_ | with_reducible refine Fresh.drewN ?_ _ | with_reducible refine Fresh.setCell ?_ ?_ _ | with_reducible refine Fresh.trans ?_ (by assumption) | (simp; done) | (simp; omega)))) HK.out HKD.out).mono ?_; rintro e w1 ⟨⟨p1, n1, cap1, q1, m1, qc1, rfl, hk1, hq1⟩, h1⟩; have HK1 := Lib.hid hk1; have HQ1 := Lib.hid hq1; clear hk1 hq1))
    go_returns
    exact ⟨ret_int HC.out.symm, (by (repeat' first | with_reducible exact Fresh.refl _ | with_reducible assumption | with_reducible refine Fresh.alloc ?_ _ _ | with_reducible refine Fresh.drew ?_ | with_reducible refine Fresh.drewN ?_ _ | with_reducible refine Fresh.setCell ?_ ?_ _ | with_reducible refine Fresh.trans ?_ (by assumption) | (simp; done) | (simp; omega)))⟩
  · have HKD := Lib.hid hkd
    have HC : Hid (chunkOf h = 0) := Lib.hid (by unfold chunkOf; rw [if_neg (by omega), if_neg (by omega), if_neg (by omega)])
    clear hkd
    go_enter Tryz.func24, Tryz.ntmps24
    go_wp2_with (first | (go_at_call 32; refine (view0 h p n cap _ HKD.out).mono ?_; rintro e w1 ⟨rfl, h1⟩))
    go_returns
    exact ⟨ret_int HC.out.symm, (by (repeat' first | with_reducible exact Fresh.refl _ | with_reducible assumption | with_reducible refine Fresh.alloc ?_ _ _ | with_reducible refine Fresh.drew ?_ | with_reducible refine Fresh.drewN ?_ _ | with_reducible refine Fresh.setCell ?_ ?_ _ | with_reducible refine Fresh.trans ?_ (by assumption) | (simp; done) | (simp; omega)))⟩
theorem isPtr_any : Calls Tryz.prog 37 #[.agg #[.int .i64 h.kind, .int .i64 h.size, .int .i64 h.len, .bool h.flag, .string h.name, .slice p n cap]] w fun e w' => e = .returned (.bool (isPtr h)) ∧ Fresh w w' := by
  have HK := Lib.hid hks
  have HF := Lib.hid hf
  clear hks hf
  rcases kinds h with hkd | hkd | hkd | hkd | hkd | hkd | hkd | hkd
  · have HKD := Lib.hid hkd
    have HC : Hid (isPtr h = false) := Lib.hid (by unfold isPtr; simp; omega)
    clear hkd
    go_enter Tryz.func37, Tryz.ntmps37
    go_wp2_with (first | (go_at_call 32; refine (view1 h p n cap _ HKD.out).mono ?_; rintro e w1 ⟨rfl, h1⟩))
    go_returns
    exact ⟨ret_bool HC.out, (by (repeat' first | with_reducible exact Fresh.refl _ | with_reducible assumption | with_reducible refine Fresh.alloc ?_ _ _ | with_reducible refine Fresh.drew ?_ | with_reducible refine Fresh.drewN ?_ _ | with_reducible refine Fresh.setCell ?_ ?_ _ | with_reducible refine Fresh.trans ?_ (by assumption) | (simp; done) | (simp; omega)))⟩
  · have HKD := Lib.hid hkd
    have HC : Hid (isPtr h = false) := Lib.hid (by unfold isPtr; simp; omega)
    clear hkd
    go_enter Tryz.func37, Tryz.ntmps37
    go_wp2_with (first | (go_at_call 32; refine (view2 h p n cap _ HKD.out).mono ?_; rintro e w1 ⟨rfl, h1⟩))
    go_returns
    exact ⟨ret_bool HC.out, (by (repeat' first | with_reducible exact Fresh.refl _ | with_reducible assumption | with_reducible refine Fresh.alloc ?_ _ _ | with_reducible refine Fresh.drew ?_ | with_reducible refine Fresh.drewN ?_ _ | with_reducible refine Fresh.setCell ?_ ?_ _ | with_reducible refine Fresh.trans ?_ (by assumption) | (simp; done) | (simp; omega)))⟩
  · have HKD := Lib.hid hkd
    have HC : Hid (isPtr h = false) := Lib.hid (by unfold isPtr; simp; omega)
    clear hkd
    go_enter Tryz.func37, Tryz.ntmps37
    go_wp2_with (first | (go_at_call 32; refine (view3 h p n cap _ HKD.out).mono ?_; rintro e w1 ⟨rfl, h1⟩))
    go_returns
    exact ⟨ret_bool HC.out, (by (repeat' first | with_reducible exact Fresh.refl _ | with_reducible assumption | with_reducible refine Fresh.alloc ?_ _ _ | with_reducible refine Fresh.drew ?_ | with_reducible refine Fresh.drewN ?_ _ | with_reducible refine Fresh.setCell ?_ ?_ _ | with_reducible refine Fresh.trans ?_ (by assumption) | (simp; done) | (simp; omega)))⟩
  · have HKD := Lib.hid hkd
    have HC : Hid (isPtr h = true) := Lib.hid (by unfold isPtr; simp; omega)
    clear hkd
    go_enter Tryz.func37, Tryz.ntmps37
    go_wp2_with (first | (go_at_call 32; refine (view4 h ks p n cap _ w0 (HF.out.trans (by (repeat' first | with_reducible exact Fresh.refl _ | with_reducible assumption | with_reducible refine Fresh.alloc ?_ _ _ | with_reducible refine Fresh.drew ?_ | with_reducible refine Fresh.drewN ?_ _ | with_reducible refine Fresh.setCell ?_ ?_ _ | with_reducible refine Fresh.trans ?_ (by assumption) | (simp; done) | (simp; omega)))) HK.out HKD.out).mono ?_; rintro e w1 ⟨⟨p1, n1, cap1, rfl, hk1⟩, h1⟩; have HK1 := Lib.hid hk1; clear hk1))
    go_returns
    exact ⟨ret_bool HC.out, (by (repeat' first | with_reducible exact Fresh.refl _ | with_reducible assumption | with_reducible refine Fresh.alloc ?_ _ _ | with_reducible refine Fresh.drew ?_ | with_reducible refine Fresh.drewN ?_ _ | with_reducible refine Fresh.setCell ?_ ?_ _ | with_reducible refine Fresh.trans ?_ (by assumption) | (simp; done) | (simp; omega)))⟩
  · have HKD := Lib.hid hkd
    have HC : Hid (isPtr h = false) := Lib.hid (by unfold isPtr; simp; omega)
    clear hkd
    go_enter Tryz.func37, Tryz.ntmps37
    go_wp2_with (first | (go_at_call 32; refine (view5 h ks p n cap _ w0 (HF.out.trans (by (repeat' first | with_reducible exact Fresh.refl _ | with_reducible assumption | with_reducible refine Fresh.alloc ?_ _ _ | with_reducible refine Fresh.drew ?_ | with_reducible refine Fresh.drewN ?_ _ | with_reducible refine Fresh.setCell ?_ ?_ _ | with_reducible refine Fresh.trans ?_ (by assumption) | (simp; done) | (simp; omega)))) HK.out HKD.out).mono ?_; rintro e w1 ⟨⟨p1, n1, cap1, rfl, hk1⟩, h1⟩; have HK1 := Lib.hid hk1; clear hk1))
    go_returns
    exact ⟨ret_bool HC.out, (by (repeat' first | with_reducible exact Fresh.refl _ | with_reducible assumption | with_reducible refine Fresh.alloc ?_ _ _ | with_reducible refine Fresh.drew ?_ | with_reducible refine Fresh.drewN ?_ _ | with_reducible refine Fresh.setCell ?_ ?_ _ | with_reducible refine Fresh.trans ?_ (by assumption) | (simp; done) | (simp; omega)))⟩
  · have HKD := Lib.hid hkd
    have HC : Hid (isPtr h = false) := Lib.hid (by unfold isPtr; simp; omega)
    clear hkd
    go_enter Tryz.func37, Tryz.ntmps37
    go_wp2_with (first | (go_at_call 32; refine (view6 h p n cap _ HKD.out).mono ?_; rintro e w1 ⟨rfl, h1⟩))
    go_returns
    exact ⟨ret_bool HC.out, (by (repeat' first | with_reducible exact Fresh.refl _ | with_reducible assumption | with_reducible refine Fresh.alloc ?_ _ _ | with_reducible refine Fresh.drew ?_ | with_reducible refine Fresh.drewN ?_ _ | with_reducible refine Fresh.setCell ?_ ?_ _ | with_reducible refine Fresh.trans ?_ (by assumption) | (simp; done) | (simp; omega)))⟩
  · have HKD := Lib.hid hkd
    have HC : Hid (isPtr h = false) := Lib.hid (by unfold isPtr; simp; omega)
    clear hkd
    go_enter Tryz.func37, Tryz.ntmps37
    go_wp2_with (first | (go_at_call 32; refine (view7 h ks p n cap _ w0 (HF.out.trans (by (repeat' first | with_reducible exact Fresh.refl _ | with_reducible assumption | with_reducible refine Fresh.alloc ?_ _ _ | with_reducible refine Fresh.drew ?_ | with_reducible refine Fresh.drewN ?_ _ | with_reducible refine Fresh.setCell ?_ ?_ _ | with_reducible refine Fresh.trans ?_ (by assumption) | (simp; done) | (simp; omega)))) HK.out HKD.out).mono ?_; rintro e w1 ⟨⟨p1, n1, cap1, q1, m1, qc1, rfl, hk1, hq1⟩, h1⟩; have HK1 := Lib.hid hk1; have HQ1 := Lib.hid hq1; clear hk1 hq1))
    go_returns
    exact ⟨ret_bool HC.out, (by (repeat' first | with_reducible exact Fresh.refl _ | with_reducible assumption | with_reducible refine Fresh.alloc ?_ _ _ | with_reducible refine Fresh.drew ?_ | with_reducible refine Fresh.drewN ?_ _ | with_reducible refine Fresh.setCell ?_ ?_ _ | with_reducible refine Fresh.trans ?_ (by assumption) | (simp; done) | (simp; omega)))⟩
  · have HKD := Lib.hid hkd
    have HC : Hid (isPtr h = false) := Lib.hid (by unfold isPtr; simp; omega)
    clear hkd
    go_enter Tryz.func37, Tryz.ntmps37
    go_wp2_with (first | (go_at_call 32; refine (view0 h p n cap _ HKD.out).mono ?_; rintro e w1 ⟨rfl, h1⟩))
    go_returns
    exact ⟨ret_bool HC.out, (by (repeat' first | with_reducible exact Fresh.refl _ | with_reducible assumption | with_reducible refine Fresh.alloc ?_ _ _ | with_reducible refine Fresh.drew ?_ | with_reducible refine Fresh.drewN ?_ _ | with_reducible refine Fresh.setCell ?_ ?_ _ | with_reducible refine Fresh.trans ?_ (by assumption) | (simp; done) | (simp; omega)))⟩
theorem kind_any : Calls Tryz.prog 9 #[.agg #[.int .i64 h.kind, .int .i64 h.size, .int .i64 h.len, .bool h.flag, .string h.name, .slice p n cap]] w fun e w' => e = .returned (.int .i64 (ckind (chunkOf h))) ∧ Fresh w w' := by
  have HK := Lib.hid hks
  have HF := Lib.hid hf
  clear hks hf
  go_enter Tryz.func9, Tryz.ntmps9
  go_wp2_with (first | (go_at_call 24; refine (chunk_any h ks p n cap w0 _ (HF.out.trans (by (repeat' first | with_reducible exact Fresh.refl _ | with_reducible assumption | with_reducible refine Fresh.alloc ?_ _ _ | with_reducible refine Fresh.drew ?_ | with_reducible refine Fresh.drewN ?_ _ | with_reducible refine Fresh.setCell ?_ ?_ _ | with_reducible refine Fresh.trans ?_ (by assumption) | (simp; done) | (simp; omega)))) HK.out).mono ?_; rintro e w1 ⟨rfl, h1⟩) | (go_at_call 28; refine (ckind_any _ _).mono ?_; rintro e w2 ⟨rfl, h2⟩))
  go_returns
  exact ⟨rfl, (by (repeat' first | with_reducible exact Fresh.refl _ | with_reducible assumption | with_reducible refine Fresh.alloc ?_ _ _ | with_reducible refine Fresh.drew ?_ | with_reducible refine Fresh.drewN ?_ _ | with_reducible refine Fresh.setCell ?_ ?_ _ | with_reducible refine Fresh.trans ?_ (by assumption) | (simp; done) | (simp; omega)))⟩
theorem isArith_any : Calls Tryz.prog 36 #[.agg #[.int .i64 h.kind, .int .i64 h.size, .int .i64 h.len, .bool h.flag, .string h.name, .slice p n cap]] w fun e w' => e = .returned (.bool (isArith h)) ∧ Fresh w w' := by
  have HK := Lib.hid hks
  have HF := Lib.hid hf
  clear hks hf
  by_cases hc : chunkOf h = 0
  · have HA : Hid (isArith h = false) := Lib.hid (by unfold isArith; simp [hc])
    have HC := Lib.hid hc
    clear hc
    go_enter Tryz.func36, Tryz.ntmps36
    go_wp2_with (first | (go_at_call 24; refine (chunk_any h ks p n cap w0 _ (HF.out.trans (by (repeat' first | with_reducible exact Fresh.refl _ | with_reducible assumption | with_reducible refine Fresh.alloc ?_ _ _ | with_reducible refine Fresh.drew ?_ | with_reducible refine Fresh.drewN ?_ _ | with_reducible refine Fresh.setCell ?_ ?_ _ | with_reducible refine Fresh.trans ?_ (by assumption) | (simp; done) | (simp; omega)))) HK.out).mono ?_; rintro e w1 ⟨rfl, h1⟩; rw [HC.out]))
    go_returns
    exact ⟨ret_bool HA.out, (by (repeat' first | with_reducible exact Fresh.refl _ | with_reducible assumption | with_reducible refine Fresh.alloc ?_ _ _ | with_reducible refine Fresh.drew ?_ | with_reducible refine Fresh.drewN ?_ _ | with_reducible refine Fresh.setCell ?_ ?_ _ | with_reducible refine Fresh.trans ?_ (by assumption) | (simp; done) | (simp; omega)))⟩
  · have hb : (chunkOf h != 0) = true := by simpa using hc
    have HA : Hid (isArith h = !(isPtr h)) := Lib.hid (by unfold isArith isPtr; rw [hb]; rfl)
    clear hc
    go_enter Tryz.func36, Tryz.ntmps36
    go_wp2_with fail
    go_at_call 24; refine (chunk_any h ks p n cap w0 _ (HF.out.trans (by (repeat' first | with_reducible exact Fresh.refl _ | with_reducible assumption | with_reducible refine Fresh.alloc ?_ _ _ | with_reducible refine Fresh.drew ?_ | with_reducible refine Fresh.drewN ?_ _ | with_reducible refine Fresh.setCell ?_ ?_ _ | with_reducible refine Fresh.trans ?_ (by assumption) | (simp; done) | (simp; omega)))) HK.out).mono ?_; rintro e w1 ⟨rfl, h1⟩
    have R := ((Blk.new w #[.int .i64 h.kind, .int .i64 h.size, .int .i64 h.len, .bool h.flag, .string h.name, .slice p n cap] 25).fresh h1)
    have r0 := (R).1 0 _ rfl; have r1 := (R).1 1 _ rfl; have r2 := (R).1 2 _ rfl; have r3 := (R).1 3 _ rfl; have r4 := (R).1 4 _ rfl; have r5 := (R).1 5 _ rfl; have rf := (R).2.1; have rz := (R).2.2
    clear R
    go_wp2_with fail
    go_at_call 37; refine (isPtr_any h ks p n cap w0 _ (HF.out.trans (by (repeat' first | with_reducible exact Fresh.refl _ | with_reducible assumption | with_reducible refine Fresh.alloc ?_ _ _ | with_reducible refine Fresh.drew ?_ | with_reducible refine Fresh.drewN ?_ _ | with_reducible refine Fresh.setCell ?_ ?_ _ | with_reducible refine Fresh.trans ?_ (by assumption) | (simp; done) | (simp; omega)))) HK.out).mono ?_; rintro e w2 ⟨rfl, h2⟩
    go_wp2_with fail
    go_returns
    exact ⟨ret_bool HA.out, (by (repeat' first | with_reducible exact Fresh.refl _ | with_reducible assumption | with_reducible refine Fresh.alloc ?_ _ _ | with_reducible refine Fresh.drew ?_ | with_reducible refine Fresh.drewN ?_ _ | with_reducible refine Fresh.setCell ?_ ?_ _ | with_reducible refine Fresh.trans ?_ (by assumption) | (simp; done) | (simp; omega)))⟩
end
theorem numT_any (s : Int) (u : Bool) (w : World) : Calls Tryz.prog 8 #[.agg #[.int .i64 s, .bool u]] w fun e w' => e = .returned (.agg #[.int .i64 2, .int .i64 s, .int .i64 0, .bool u, .string ⟨#[]⟩, .slice none 0 0]) ∧ Fresh w w' := by
  go_enter Tryz.func8, Tryz.ntmps8
  go_wp2
  go_returns
  exact ⟨rfl, (by (repeat' first | with_reducible exact Fresh.refl _ | with_reducible assumption | with_reducible refine Fresh.alloc ?_ _ _ | with_reducible refine Fresh.drew ?_ | with_reducible refine Fresh.drewN ?_ _ | with_reducible refine Fresh.setCell ?_ ?_ _ | with_reducible refine Fresh.trans ?_ (by assumption) | (simp; done) | (simp; omega)))⟩
theorem floatT_any (w : World) : Calls Tryz.prog 12 #[.agg #[]] w fun e w' => e = .returned (.agg #[.int .i64 3, .int .i64 0, .int .i64 0, .bool false, .string ⟨#[]⟩, .slice none 0 0]) ∧ Fresh w w' := by
  go_enter Tryz.func12, Tryz.ntmps12
  go_wp2
  go_returns
  exact ⟨rfl, (by (repeat' first | with_reducible exact Fresh.refl _ | with_reducible assumption | with_reducible refine Fresh.alloc ?_ _ _ | with_reducible refine Fresh.drew ?_ | with_reducible refine Fresh.drewN ?_ _ | with_reducible refine Fresh.setCell ?_ ?_ _ | with_reducible refine Fresh.trans ?_ (by assumption) | (simp; done) | (simp; omega)))⟩
theorem voidT_any (w : World) : Calls Tryz.prog 47 #[.agg #[]] w fun e w' => e = .returned (.agg #[.int .i64 1, .int .i64 0, .int .i64 0, .bool false, .string ⟨#[]⟩, .slice none 0 0]) ∧ Fresh w w' := by
  go_enter Tryz.func47, Tryz.ntmps47
  go_wp2
  go_returns
  exact ⟨rfl, (by (repeat' first | with_reducible exact Fresh.refl _ | with_reducible assumption | with_reducible refine Fresh.alloc ?_ _ _ | with_reducible refine Fresh.drew ?_ | with_reducible refine Fresh.drewN ?_ _ | with_reducible refine Fresh.setCell ?_ ?_ _ | with_reducible refine Fresh.trans ?_ (by assumption) | (simp; done) | (simp; omega)))⟩
theorem recT_any (nm : ByteArray) (u : Bool) (w : World) : Calls Tryz.prog 15 #[.agg #[.string nm, .bool u]] w fun e w' => e = .returned (.agg #[.int .i64 6, .int .i64 0, .int .i64 0, .bool u, .string nm, .slice none 0 0]) ∧ Fresh w w' := by
  go_enter Tryz.func15, Tryz.ntmps15
  go_wp2
  go_returns
  exact ⟨rfl, (by (repeat' first | with_reducible exact Fresh.refl _ | with_reducible assumption | with_reducible refine Fresh.alloc ?_ _ _ | with_reducible refine Fresh.drew ?_ | with_reducible refine Fresh.drewN ?_ _ | with_reducible refine Fresh.setCell ?_ ?_ _ | with_reducible refine Fresh.trans ?_ (by assumption) | (simp; done) | (simp; omega)))⟩
/-- A row of one. -/
theorem Kids.one {w : World} {B : Nat} {h : Hd} {ks : Tys} {p : Option Addr} {n cap : Nat} (hB : ok B) (hb : B6 w B (.int .i64 h.kind) (.int .i64 h.size) (.int .i64 h.len) (.bool h.flag) (.string h.name) (.slice p n cap)) (hk : Kids ok w ks p n cap) :
    Kids ok w (.cons h ks .nil) (some ⟨B, 0, Option.none⟩) 1 1 :=
  ⟨rfl, Nat.le_refl _, by unfold maxLen; omega, Or.inr ⟨B, 0, rfl, hB, ⟨p, n, cap, ⟨hb.c0, hb.c1, hb.c2, hb.c3, hb.c4, hb.c5⟩, hk.1, hk.2.1, hk.2.2.1, hk.2.2.2⟩, trivial⟩⟩
theorem Kids.alloc_one {W : World} {h : Hd} {ks : Tys} {p : Option Addr} {n cap : Nat} (t : TypeId) (hB : ok W.heap.size) (hk : Kids ok W ks p n cap) :
    Kids ok (W.alloc (.cells #[.int .i64 h.kind, .int .i64 h.size, .int .i64 h.len, .bool h.flag, .string h.name, .slice p n cap] t)) (.cons h ks .nil) (some ⟨W.heap.size, 0, Option.none⟩) 1 1 :=
  Kids.one hB (Blk.new W _ t).six (hk.later ((Fresh.refl W).alloc _ _))
theorem ptrT_any (h : Hd) (ks : Tys) (p : Option Addr) (n cap : Nat) (w : World) (ho : ∀ b, w.heap.size ≤ b → ok b) (hk : Kids ok w ks p n cap) :
    Calls Tryz.prog 20 #[.agg #[.int .i64 h.kind, .int .i64 h.size, .int .i64 h.len, .bool h.flag, .string h.name, .slice p n cap]] w fun e w' => (∃ p', e = .returned (.agg #[.int .i64 4, .int .i64 0, .int .i64 0, .bool false, .string ⟨#[]⟩, .slice p' 1 1]) ∧ Kids ok w' (.cons h ks .nil) p' 1 1) ∧ Fresh w w' := by
  have HK := Lib.hid hk
  have HO := Lib.hid (ho (w.heap.size + 1 + 1) (by omega))
  clear hk ho
  go_enter Tryz.func20, Tryz.ntmps20
  go_wp2
  go_returns
  refine ⟨⟨_, rfl, ?_⟩, (by (repeat' first | with_reducible exact Fresh.refl _ | with_reducible assumption | with_reducible refine Fresh.alloc ?_ _ _ | with_reducible refine Fresh.drew ?_ | with_reducible refine Fresh.drewN ?_ _ | with_reducible refine Fresh.setCell ?_ ?_ _ | with_reducible refine Fresh.trans ?_ (by assumption) | (simp; done) | (simp; omega)))⟩
  have := Kids.alloc_one (W := (w.alloc (.cells #[.int .i64 h.kind, .int .i64 h.size, .int .i64 h.len, .bool h.flag, .string h.name, .slice p n cap] 66)).alloc (.cells #[.int .i64 4, .int .i64 0, .int .i64 0, .bool false, .string ⟨#[]⟩, .slice (some ⟨w.heap.size + 1 + 1, 0, none⟩) 1 1] 25)) (ok := ok) (h := h) 25 (by simpa only [World.size_alloc] using HO.out) (HK.out.later (by (repeat' first | with_reducible exact Fresh.refl _ | with_reducible assumption | with_reducible refine Fresh.alloc ?_ _ _ | with_reducible refine Fresh.drew ?_ | with_reducible refine Fresh.drewN ?_ _ | with_reducible refine Fresh.setCell ?_ ?_ _ | with_reducible refine Fresh.trans ?_ (by assumption) | (simp; done) | (simp; omega))))
  simpa only [World.size_alloc] using this
theorem arrT_any (h : Hd) (ks : Tys) (p : Option Addr) (n cap : Nat) (l : Int) (w : World) (ho : ∀ b, w.heap.size ≤ b → ok b) (hk : Kids ok w ks p n cap) :
    Calls Tryz.prog 16 #[.agg #[.int .i64 h.kind, .int .i64 h.size, .int .i64 h.len, .bool h.flag, .string h.name, .slice p n cap, .int .i64 l]] w fun e w' => (∃ p', e = .returned (.agg #[.int .i64 5, .int .i64 0, .int .i64 l, .bool false, .string ⟨#[]⟩, .slice p' 1 1]) ∧ Kids ok w' (.cons h ks .nil) p' 1 1) ∧ Fresh w w' := by
  have HK := Lib.hid hk
  have HO := Lib.hid (ho (w.heap.size + 1 + 1) (by omega))
  clear hk ho
  go_enter Tryz.func16, Tryz.ntmps16
  go_wp2
  go_returns
  refine ⟨⟨_, rfl, ?_⟩, (by (repeat' first | with_reducible exact Fresh.refl _ | with_reducible assumption | with_reducible refine Fresh.alloc ?_ _ _ | with_reducible refine Fresh.drew ?_ | with_reducible refine Fresh.drewN ?_ _ | with_reducible refine Fresh.setCell ?_ ?_ _ | with_reducible refine Fresh.trans ?_ (by assumption) | (simp; done) | (simp; omega)))⟩
  have := Kids.alloc_one (W := (w.alloc (.cells #[.int .i64 h.kind, .int .i64 h.size, .int .i64 h.len, .bool h.flag, .string h.name, .slice p n cap, .int .i64 l] 58)).alloc (.cells #[.int .i64 5, .int .i64 0, .int .i64 l, .bool false, .string ⟨#[]⟩, .slice (some ⟨w.heap.size + 1 + 1, 0, none⟩) 1 1] 25)) (ok := ok) (h := h) 25 (by simpa only [World.size_alloc] using HO.out) (HK.out.later (by (repeat' first | with_reducible exact Fresh.refl _ | with_reducible assumption | with_reducible refine Fresh.alloc ?_ _ _ | with_reducible refine Fresh.drew ?_ | with_reducible refine Fresh.drewN ?_ _ | with_reducible refine Fresh.setCell ?_ ?_ _ | with_reducible refine Fresh.trans ?_ (by assumption) | (simp; done) | (simp; omega))))
  simpa only [World.size_alloc] using this
end Go.Proofs.YteiomcbphbbpkaaGreatDoor
