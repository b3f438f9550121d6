/- How deep types nest, and when they are the same: numbers, pointers, arrays. -/
import Derived.Test.YteiomcbphbbpkaaGreatDoorCq
namespace Go.Proofs.YteiomcbphbbpkaaGreatDoor
set_option linter.unusedSimpArgs false
set_option linter.unusedVariables false
open Go.RowKit
variable {ok : Nat → Prop}

attribute [local go_sem] as_87_87 as_87_36 as_87_45 as_87_56 as_87_66 as_87_58 as_87_94 as_36_87 as_36_36 as_36_45 as_36_56 as_36_66 as_36_58 as_36_94 as_45_87 as_45_36 as_45_45 as_45_56 as_45_66 as_45_58 as_45_94 as_56_87 as_56_36 as_56_45 as_56_56 as_56_66 as_56_58 as_56_94 as_66_87 as_66_36 as_66_45 as_66_56 as_66_66 as_66_58 as_66_94 as_58_87 as_58_36 as_58_45 as_58_56 as_58_66 as_58_58 as_58_94 as_94_87 as_94_36 as_94_45 as_94_56 as_94_66 as_94_58 as_94_94 as_nil_87 as_nil_36 as_nil_45 as_nil_56 as_nil_66 as_nil_58 as_nil_94
theorem eq_if (t : TypeId) (v : Value) (w : World) : (binOp .eql 20 (.iface t v) .nilIface).run Tryz.prog w = .ok (.bool false) w := by kernel_rfl
section
variable {ok ok2 : Nat → Prop} (h : Hd) (ks : Tys) (p : Option Addr) (n cap : Nat) (w0 w : World) (hf : Fresh w0 w) (hks : Kids ok w0 ks p n cap)
theorem depth_num (hk : h.kind = 2) : Calls Tryz.prog 23 #[.agg #[.int .i64 h.kind, .int .i64 h.size, .int .i64 h.len, .bool h.flag, .string h.name, .slice p n cap]] w fun e w' => e = .returned (.int .i64 1) ∧ Fresh w w' := by
  have HKD := Lib.hid hk
  clear hk
  have q := eq_if
  go_enter Tryz.func23, Tryz.ntmps23
  go_wp2_with (go_at_call 32; refine (view2 h p n cap _ HKD.out).mono ?_; rintro e w1 ⟨rfl, h1⟩)
  go_returns
  exact ⟨rfl, (by (repeat' first | with_reducible exact Fresh.refl _ | with_reducible assumption | with_reducible refine Fresh.alloc ?_ _ _ | with_reducible refine Fresh.drew ?_ | with_reducible refine Fresh.drewN ?_ _ | with_reducible refine Fresh.setCell ?_ ?_ _ | with_reducible refine Fresh.trans ?_ (by assumption) | (simp; done) | (simp; omega)))⟩
include hf hks
theorem depth_up4 (D : Int) (d0 : 0 ≤ D) (d1 : D ≤ 1000) (hk : h.kind = 4)
    (kid : ∀ (X : World) (p' : Option Addr) (n' cap' : Nat), Fresh w0 X → Kids ok w0 ks.kids p' n' cap' → Calls Tryz.prog 23 #[.agg #[.int .i64 ks.hd.kind, .int .i64 ks.hd.size, .int .i64 ks.hd.len, .bool ks.hd.flag, .string ks.hd.name, .slice p' n' cap']] X fun e w' => e = .returned (.int .i64 D) ∧ Fresh X w') :
    Calls Tryz.prog 23 #[.agg #[.int .i64 h.kind, .int .i64 h.size, .int .i64 h.len, .bool h.flag, .string h.name, .slice p n cap]] w fun e w' => e = .returned (.int .i64 (1 + D)) ∧ Fresh w w' := by
  have HKD := Lib.hid hk
  have HK := Lib.hid hks
  have HF := Lib.hid hf
  have KID := Lib.hid kid
  clear hk hks hf kid
  have q := eq_if
  go_enter Tryz.func23, Tryz.ntmps23
  go_wp2_with fail
  go_at_call 32; refine (view4 h ks p n cap _ w0 (HF.out.trans (by (repeat' first | with_reducible exact Fresh.refl _ | with_reducible assumption | with_reducible refine Fresh.alloc ?_ _ _ | with_reducible refine Fresh.drew ?_ | with_reducible refine Fresh.drewN ?_ _ | with_reducible refine Fresh.setCell ?_ ?_ _ | with_reducible refine Fresh.trans ?_ (by assumption) | (simp; done) | (simp; omega)))) HK.out HKD.out).mono ?_; rintro e w1 ⟨⟨p1, n1, cap1, rfl, hk1⟩, h1⟩; have HK1 := Lib.hid hk1; clear hk1
  have H1 := Lib.hid (show Fresh w w1 from (by (repeat' first | with_reducible exact Fresh.refl _ | with_reducible assumption | with_reducible refine Fresh.alloc ?_ _ _ | with_reducible refine Fresh.drew ?_ | with_reducible refine Fresh.drewN ?_ _ | with_reducible refine Fresh.setCell ?_ ?_ _ | with_reducible refine Fresh.trans ?_ (by assumption) | (simp; done) | (simp; omega))))
  go_wp2_with fail
  go_at_call 23; refine (KID.out _ p1 n1 cap1 (HF.out.trans (H1.out.trans (by (repeat' first | with_reducible exact Fresh.refl _ | with_reducible assumption | with_reducible refine Fresh.alloc ?_ _ _ | with_reducible refine Fresh.drew ?_ | with_reducible refine Fresh.drewN ?_ _ | with_reducible refine Fresh.setCell ?_ ?_ _ | with_reducible refine Fresh.trans ?_ (by assumption) | (simp; done) | (simp; omega))))) HK1.out).mono ?_; rintro e w2 ⟨rfl, h2⟩
  go_wp2_with fail
  go_returns
  exact ⟨rfl, (by (repeat' first | with_reducible exact Fresh.refl _ | with_reducible assumption | with_reducible refine Fresh.alloc ?_ _ _ | with_reducible refine Fresh.drew ?_ | with_reducible refine Fresh.drewN ?_ _ | with_reducible refine Fresh.setCell ?_ ?_ _ | with_reducible refine Fresh.trans ?_ (by assumption) | (simp; done) | (simp; omega)))⟩
theorem depth_up5 (D : Int) (d0 : 0 ≤ D) (d1 : D ≤ 1000) (hk : h.kind = 5)
    (kid : ∀ (X : World) (p' : Option Addr) (n' cap' : Nat), Fresh w0 X → Kids ok w0 ks.kids p' n' cap' → Calls Tryz.prog 23 #[.agg #[.int .i64 ks.hd.kind, .int .i64 ks.hd.size, .int .i64 ks.hd.len, .bool ks.hd.flag, .string ks.hd.name, .slice p' n' cap']] X fun e w' => e = .returned (.int .i64 D) ∧ Fresh X w') :
    Calls Tryz.prog 23 #[.agg #[.int .i64 h.kind, .int .i64 h.size, .int .i64 h.len, .bool h.flag, .string h.name, .slice p n cap]] w fun e w' => e = .returned (.int .i64 (1 + D)) ∧ Fresh w w' := by
  have HKD := Lib.hid hk
  have HK := Lib.hid hks
  have HF := Lib.hid hf
  have KID := Lib.hid kid
  clear hk hks hf kid
  have q := eq_if
  go_enter Tryz.func23, Tryz.ntmps23
  go_wp2_with fail
  go_at_call 32; refine (view5 h ks p n cap _ w0 (HF.out.trans (by (repeat' first | with_reducible exact Fresh.refl _ | with_reducible assumption | with_reducible refine Fresh.alloc ?_ _ _ | with_reducible refine Fresh.drew ?_ | with_reducible refine Fresh.drewN ?_ _ | with_reducible refine Fresh.setCell ?_ ?_ _ | with_reducible refine Fresh.trans ?_ (by assumption) | (simp; done) | (simp; omega)))) HK.out HKD.out).mono ?_; rintro e w1 ⟨⟨p1, n1, cap1, rfl, hk1⟩, h1⟩; have HK1 := Lib.hid hk1; clear hk1
  have H1 := Lib.hid (show Fresh w w1 from (by (repeat' first | with_reducible exact Fresh.refl _ | with_reducible assumption | with_reducible refine Fresh.alloc ?_ _ _ | with_reducible refine Fresh.drew ?_ | with_reducible refine Fresh.drewN ?_ _ | with_reducible refine Fresh.setCell ?_ ?_ _ | with_reducible refine Fresh.trans ?_ (by assumption) | (simp; done) | (simp; omega))))
  go_wp2_with fail
  go_at_call 23; refine (KID.out _ p1 n1 cap1 (HF.out.trans (H1.out.trans (by (repeat' first | with_reducible exact Fresh.refl _ | with_reducible assumption | with_reducible refine Fresh.alloc ?_ _ _ | with_reducible refine Fresh.drew ?_ | with_reducible refine Fresh.drewN ?_ _ | with_reducible refine Fresh.setCell ?_ ?_ _ | with_reducible refine Fresh.trans ?_ (by assumption) | (simp; done) | (simp; omega))))) HK1.out).mono ?_; rintro e w2 ⟨rfl, h2⟩
  go_wp2_with fail
  go_returns
  exact ⟨rfl, (by (repeat' first | with_reducible exact Fresh.refl _ | with_reducible assumption | with_reducible refine Fresh.alloc ?_ _ _ | with_reducible refine Fresh.drew ?_ | with_reducible refine Fresh.drewN ?_ _ | with_reducible refine Fresh.setCell ?_ ?_ _ | with_reducible refine Fresh.trans ?_ (by assumption) | (simp; done) | (simp; omega)))⟩
end
section
variable {ok ok2 : Nat → Prop} (a b : Hd) (ks js : Tys) (p q : Option Addr) (n m cap mc : Nat) (w0 w : World) (hf : Fresh w0 w) (hks : Kids ok w0 ks p n cap) (hjs : Kids ok2 w0 js q m mc)
theorem same_num (ha : a.kind = 2) (hb : b.kind = 2) (hs : a.size = b.size) (hfl : a.flag = b.flag) : Calls Tryz.prog 21 #[.agg #[.int .i64 a.kind, .int .i64 a.size, .int .i64 a.len, .bool a.flag, .string a.name, .slice p n cap], .agg #[.int .i64 b.kind, .int .i64 b.size, .int .i64 b.len, .bool b.flag, .string b.name, .slice q m mc]] w fun e w' => e = .returned (.bool true) ∧ Fresh w w' := by
  have HA := Lib.hid ha
  have HB := Lib.hid hb
  have HS := Lib.hid hs
  have HFL := Lib.hid hfl
  clear ha hb hs hfl
  have X0 := Lib.hid (BY.new w a b p q n m cap mc)
  go_enter Tryz.func21, Tryz.ntmps21
  go_wp2_with fail
  go_at_call 32; refine (view2 a p n cap _ HA.out).mono ?_; rintro e w1 ⟨rfl, h1⟩; have X1 := Lib.hid (X0.out.later h1); clear h1
  obtain ⟨b0, b1, b2, b3, b4, b5, bf⟩ := X1.out.bb; have bz := cell_lt b0; simp only at bz
  go_wp2_with fail
  go_at_call 32; refine (view2 b q m mc _ HB.out).mono ?_; rintro e w2 ⟨rfl, h2⟩; have X2 := Lib.hid ((X1.out.later ((Fresh.refl _).alloc #[.int .i64 a.size, .bool a.flag] 36)).later h2)
  have t6 := (Blk.new w1 #[.int .i64 a.size, .bool a.flag] 36).fresh h2
  have g0 := t6.1 0 _ rfl
  have g1 := t6.1 1 _ rfl
  have gz := t6.2.2
  clear t6 b0 b1 b2 b3 b4 b5 bf bz h2
  have e1 : (a.size == b.size) = true := by simpa using HS.out
  have e2 : (a.flag == b.flag) = true := by simpa using HFL.out
  go_wp2_with fail
  go_returns
  exact ⟨rfl, X2.out.fr.trans (by (repeat' first | with_reducible exact Fresh.refl _ | with_reducible assumption | with_reducible refine Fresh.alloc ?_ _ _ | with_reducible refine Fresh.drew ?_ | with_reducible refine Fresh.drewN ?_ _ | with_reducible refine Fresh.setCell ?_ ?_ _ | with_reducible refine Fresh.trans ?_ (by assumption) | (simp; done) | (simp; omega)))⟩
include hf hks hjs
theorem same_up4 (ha : a.kind = 4) (hb : b.kind = 4) (hl : a.len = b.len)
    (kid : ∀ (X : World) (p' q' : Option Addr) (n' cap' m' mc' : Nat), Fresh w0 X → Kids ok w0 ks.kids p' n' cap' → Kids ok2 w0 js.kids q' m' mc' → Calls Tryz.prog 21 #[.agg #[.int .i64 ks.hd.kind, .int .i64 ks.hd.size, .int .i64 ks.hd.len, .bool ks.hd.flag, .string ks.hd.name, .slice p' n' cap'], .agg #[.int .i64 js.hd.kind, .int .i64 js.hd.size, .int .i64 js.hd.len, .bool js.hd.flag, .string js.hd.name, .slice q' m' mc']] X fun e w' => e = .returned (.bool true) ∧ Fresh X w') :
    Calls Tryz.prog 21 #[.agg #[.int .i64 a.kind, .int .i64 a.size, .int .i64 a.len, .bool a.flag, .string a.name, .slice p n cap], .agg #[.int .i64 b.kind, .int .i64 b.size, .int .i64 b.len, .bool b.flag, .string b.name, .slice q m mc]] w fun e w' => e = .returned (.bool true) ∧ Fresh w w' := by
  have HA := Lib.hid ha
  have HB := Lib.hid hb
  have HL := Lib.hid hl
  have HK := Lib.hid hks
  have HJ := Lib.hid hjs
  have HF := Lib.hid hf
  have KID := Lib.hid kid
  clear ha hb hks hjs hf kid hl
  have X0 := Lib.hid (BY.new w a b p q n m cap mc)
  go_enter Tryz.func21, Tryz.ntmps21
  go_wp2_with fail
  go_at_call 32; refine (view4 a ks p n cap _ w0 (HF.out.trans (by (repeat' first | with_reducible exact Fresh.refl _ | with_reducible assumption | with_reducible refine Fresh.alloc ?_ _ _ | with_reducible refine Fresh.drew ?_ | with_reducible refine Fresh.drewN ?_ _ | with_reducible refine Fresh.setCell ?_ ?_ _ | with_reducible refine Fresh.trans ?_ (by assumption) | (simp; done) | (simp; omega)))) HK.out HA.out).mono ?_; rintro e w1 ⟨⟨p1, n1, cap1, rfl, hk1⟩, h1⟩; have HK1 := Lib.hid hk1; clear hk1; have X1 := Lib.hid (X0.out.later h1); clear h1
  obtain ⟨b0, b1, b2, b3, b4, b5, bf⟩ := X1.out.bb; have bz := cell_lt b0; simp only at bz
  go_wp2_with fail
  go_at_call 32; refine (view4 b js q m mc _ w0 (HF.out.trans (X1.out.fr.trans (by (repeat' first | with_reducible exact Fresh.refl _ | with_reducible assumption | with_reducible refine Fresh.alloc ?_ _ _ | with_reducible refine Fresh.drew ?_ | with_reducible refine Fresh.drewN ?_ _ | with_reducible refine Fresh.setCell ?_ ?_ _ | with_reducible refine Fresh.trans ?_ (by assumption) | (simp; done) | (simp; omega))))) HJ.out HB.out).mono ?_; rintro e w1b ⟨⟨p1b, n1b, cap1b, rfl, hk1b⟩, h1b⟩; have HK1b := Lib.hid hk1b; clear hk1b; have X2 := Lib.hid ((X1.out.later ((Fresh.refl _).alloc #[.int .i64 ks.hd.kind, .int .i64 ks.hd.size, .int .i64 ks.hd.len, .bool ks.hd.flag, .string ks.hd.name, .slice p1 n1 cap1] 66)).later h1b)
  have t6 := (Blk.new w1 #[.int .i64 ks.hd.kind, .int .i64 ks.hd.size, .int .i64 ks.hd.len, .bool ks.hd.flag, .string ks.hd.name, .slice p1 n1 cap1] 66).fresh h1b
  have g0 := (t6).1 0 _ rfl; have g1 := (t6).1 1 _ rfl; have g2 := (t6).1 2 _ rfl; have g3 := (t6).1 3 _ rfl; have g4 := (t6).1 4 _ rfl; have g5 := (t6).1 5 _ rfl; have gf := (t6).2.1; have gz := (t6).2.2
  clear t6 b0 b1 b2 b3 b4 b5 bf bz h1b
  have e1 : (a.len == b.len) = true := by simpa using HL.out
  go_wp2_with fail
  go_at_call 21; refine (KID.out _ p1 p1b n1 cap1 n1b cap1b (HF.out.trans (X2.out.fr.trans (by (repeat' first | with_reducible exact Fresh.refl _ | with_reducible assumption | with_reducible refine Fresh.alloc ?_ _ _ | with_reducible refine Fresh.drew ?_ | with_reducible refine Fresh.drewN ?_ _ | with_reducible refine Fresh.setCell ?_ ?_ _ | with_reducible refine Fresh.trans ?_ (by assumption) | (simp; done) | (simp; omega))))) HK1.out HK1b.out).mono ?_; rintro e w3 ⟨rfl, h3⟩
  have F3 := Lib.hid (X2.out.fr.trans (show Fresh w1b w3 from (by (repeat' first | with_reducible exact Fresh.refl _ | with_reducible assumption | with_reducible refine Fresh.alloc ?_ _ _ | with_reducible refine Fresh.drew ?_ | with_reducible refine Fresh.drewN ?_ _ | with_reducible refine Fresh.setCell ?_ ?_ _ | with_reducible refine Fresh.trans ?_ (by assumption) | (simp; done) | (simp; omega)))))
  go_wp2_with fail
  go_returns
  exact ⟨rfl, F3.out⟩
theorem same_up5 (ha : a.kind = 5) (hb : b.kind = 5) (hl : a.len = b.len)
    (kid : ∀ (X : World) (p' q' : Option Addr) (n' cap' m' mc' : Nat), Fresh w0 X → Kids ok w0 ks.kids p' n' cap' → Kids ok2 w0 js.kids q' m' mc' → Calls Tryz.prog 21 #[.agg #[.int .i64 ks.hd.kind, .int .i64 ks.hd.size, .int .i64 ks.hd.len, .bool ks.hd.flag, .string ks.hd.name, .slice p' n' cap'], .agg #[.int .i64 js.hd.kind, .int .i64 js.hd.size, .int .i64 js.hd.len, .bool js.hd.flag, .string js.hd.name, .slice q' m' mc']] X fun e w' => e = .returned (.bool true) ∧ Fresh X w') :
    Calls Tryz.prog 21 #[.agg #[.int .i64 a.kind, .int .i64 a.size, .int .i64 a.len, .bool a.flag, .string a.name, .slice p n cap], .agg #[.int .i64 b.kind, .int .i64 b.size, .int .i64 b.len, .bool b.flag, .string b.name, .slice q m mc]] w fun e w' => e = .returned (.bool true) ∧ Fresh w w' := by
  have HA := Lib.hid ha
  have HB := Lib.hid hb
  have HL := Lib.hid hl
  have HK := Lib.hid hks
  have HJ := Lib.hid hjs
  have HF := Lib.hid hf
  have KID := Lib.hid kid
  clear ha hb hks hjs hf kid hl
  have X0 := Lib.hid (BY.new w a b p q n m cap mc)
  go_enter Tryz.func21, Tryz.ntmps21
  go_wp2_with fail
  go_at_call 32; refine (view5 a ks p n cap _ w0 (HF.out.trans (by (repeat' first | with_reducible exact Fresh.refl _ | with_reducible assumption | with_reducible refine Fresh.alloc ?_ _ _ | with_reducible refine Fresh.drew ?_ | with_reducible refine Fresh.drewN ?_ _ | with_reducible refine Fresh.setCell ?_ ?_ _ | with_reducible refine Fresh.trans ?_ (by assumption) | (simp; done) | (simp; omega)))) HK.out HA.out).mono ?_; rintro e w1 ⟨⟨p1, n1, cap1, rfl, hk1⟩, h1⟩; have HK1 := Lib.hid hk1; clear hk1; have X1 := Lib.hid (X0.out.later h1); clear h1
  obtain ⟨b0, b1, b2, b3, b4, b5, bf⟩ := X1.out.bb; have bz := cell_lt b0; simp only at bz
  go_wp2_with fail
  go_at_call 32; refine (view5 b js q m mc _ w0 (HF.out.trans (X1.out.fr.trans (by (repeat' first | with_reducible exact Fresh.refl _ | with_reducible assumption | with_reducible refine Fresh.alloc ?_ _ _ | with_reducible refine Fresh.drew ?_ | with_reducible refine Fresh.drewN ?_ _ | with_reducible refine Fresh.setCell ?_ ?_ _ | with_reducible refine Fresh.trans ?_ (by assumption) | (simp; done) | (simp; omega))))) HJ.out HB.out).mono ?_; rintro e w1b ⟨⟨p1b, n1b, cap1b, rfl, hk1b⟩, h1b⟩; have HK1b := Lib.hid hk1b; clear hk1b; have X2 := Lib.hid ((X1.out.later ((Fresh.refl _).alloc #[.int .i64 ks.hd.kind, .int .i64 ks.hd.size, .int .i64 ks.hd.len, .bool ks.hd.flag, .string ks.hd.name, .slice p1 n1 cap1, .int .i64 a.len] 58)).later h1b)
  have t6 := (Blk.new w1 #[.int .i64 ks.hd.kind, .int .i64 ks.hd.size, .int .i64 ks.hd.len, .bool ks.hd.flag, .string ks.hd.name, .slice p1 n1 cap1, .int .i64 a.len] 58).fresh h1b
  have g0 := (t6).1 0 _ rfl; have g1 := (t6).1 1 _ rfl; have g2 := (t6).1 2 _ rfl; have g3 := (t6).1 3 _ rfl; have g4 := (t6).1 4 _ rfl; have g5 := (t6).1 5 _ rfl; have g6 := (t6).1 6 _ rfl; have gf := (t6).2.1; have gz := (t6).2.2
  clear t6 b0 b1 b2 b3 b4 b5 bf bz h1b
  have e1 : (a.len == b.len) = true := by simpa using HL.out
  go_wp2_with fail
  go_at_call 21; refine (KID.out _ p1 p1b n1 cap1 n1b cap1b (HF.out.trans (X2.out.fr.trans (by (repeat' first | with_reducible exact Fresh.refl _ | with_reducible assumption | with_reducible refine Fresh.alloc ?_ _ _ | with_reducible refine Fresh.drew ?_ | with_reducible refine Fresh.drewN ?_ _ | with_reducible refine Fresh.setCell ?_ ?_ _ | with_reducible refine Fresh.trans ?_ (by assumption) | (simp; done) | (simp; omega))))) HK1.out HK1b.out).mono ?_; rintro e w3 ⟨rfl, h3⟩
  have F3 := Lib.hid (X2.out.fr.trans (show Fresh w1b w3 from (by (repeat' first | with_reducible exact Fresh.refl _ | with_reducible assumption | with_reducible refine Fresh.alloc ?_ _ _ | with_reducible refine Fresh.drew ?_ | with_reducible refine Fresh.drewN ?_ _ | with_reducible refine Fresh.setCell ?_ ?_ _ | with_reducible refine Fresh.trans ?_ (by assumption) | (simp; done) | (simp; omega)))))
  go_wp2_with fail
  go_returns
  exact ⟨rfl, F3.out⟩
end
end Go.Proofs.YteiomcbphbbpkaaGreatDoor
