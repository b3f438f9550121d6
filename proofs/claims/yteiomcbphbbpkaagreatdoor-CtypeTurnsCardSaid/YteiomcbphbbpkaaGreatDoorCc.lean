/- View: the form of a type by its kind; what type assertions on it answer. -/
import Derived.Test.YteiomcbphbbpkaaGreatDoorCb
namespace Go.Proofs.YteiomcbphbbpkaaGreatDoor
set_option linter.unusedSimpArgs false
set_option linter.unusedVariables false
open Go.RowKit
variable {ok : Nat → Prop}

section
variable (h : Hd) (ks : Tys) (p : Option Addr) (n cap : Nat) (w : World)
theorem view1 (hk : h.kind = 1) : Calls Tryz.prog 32 #[.agg #[.int .i64 h.kind, .int .i64 h.size, .int .i64 h.len, .bool h.flag, .string h.name, .slice p n cap]] w fun e w' => e = .returned (.iface 87 (.agg #[])) ∧ Fresh w w' := by
  obtain ⟨k, s, l, f, nm⟩ := h
  simp only at hk
  subst hk
  go_enter Tryz.func32, Tryz.ntmps32
  go_wp2_with (go_at_call 54; refine (void_any ⟨1, s, l, f, nm⟩ p n cap _).mono ?_; rintro e w1 ⟨rfl, h1⟩)
  go_returns
  exact ⟨rfl, (by (repeat' first | with_reducible exact Fresh.refl _ | with_reducible assumption | with_reducible refine Fresh.alloc ?_ _ _ | with_reducible refine Fresh.drew ?_ | with_reducible refine Fresh.drewN ?_ _ | with_reducible refine Fresh.setCell ?_ ?_ _ | with_reducible refine Fresh.trans ?_ (by assumption) | (simp; done) | (simp; omega)))⟩
theorem view2 (hk : h.kind = 2) : Calls Tryz.prog 32 #[.agg #[.int .i64 h.kind, .int .i64 h.size, .int .i64 h.len, .bool h.flag, .string h.name, .slice p n cap]] w fun e w' => e = .returned (.iface 36 (.agg #[.int .i64 h.size, .bool h.flag])) ∧ Fresh w w' := by
  obtain ⟨k, s, l, f, nm⟩ := h
  simp only at hk
  subst hk
  go_enter Tryz.func32, Tryz.ntmps32
  go_wp2_with (go_at_call 29; refine (number_any ⟨2, s, l, f, nm⟩ p n cap _).mono ?_; rintro e w1 ⟨rfl, h1⟩)
  go_returns
  exact ⟨rfl, (by (repeat' first | with_reducible exact Fresh.refl _ | with_reducible assumption | with_reducible refine Fresh.alloc ?_ _ _ | with_reducible refine Fresh.drew ?_ | with_reducible refine Fresh.drewN ?_ _ | with_reducible refine Fresh.setCell ?_ ?_ _ | with_reducible refine Fresh.trans ?_ (by assumption) | (simp; done) | (simp; omega)))⟩
theorem view3 (hk : h.kind = 3) : Calls Tryz.prog 32 #[.agg #[.int .i64 h.kind, .int .i64 h.size, .int .i64 h.len, .bool h.flag, .string h.name, .slice p n cap]] w fun e w' => e = .returned (.iface 45 (.agg #[])) ∧ Fresh w w' := by
  obtain ⟨k, s, l, f, nm⟩ := h
  simp only at hk
  subst hk
  go_enter Tryz.func32, Tryz.ntmps32
  go_wp2_with (go_at_call 55; refine (float_any ⟨3, s, l, f, nm⟩ p n cap _).mono ?_; rintro e w1 ⟨rfl, h1⟩)
  go_returns
  exact ⟨rfl, (by (repeat' first | with_reducible exact Fresh.refl _ | with_reducible assumption | with_reducible refine Fresh.alloc ?_ _ _ | with_reducible refine Fresh.drew ?_ | with_reducible refine Fresh.drewN ?_ _ | with_reducible refine Fresh.setCell ?_ ?_ _ | with_reducible refine Fresh.trans ?_ (by assumption) | (simp; done) | (simp; omega)))⟩
theorem view6 (hk : h.kind = 6) : Calls Tryz.prog 32 #[.agg #[.int .i64 h.kind, .int .i64 h.size, .int .i64 h.len, .bool h.flag, .string h.name, .slice p n cap]] w fun e w' => e = .returned (.iface 56 (.agg #[.string h.name, .bool h.flag])) ∧ Fresh w w' := by
  obtain ⟨k, s, l, f, nm⟩ := h
  simp only at hk
  subst hk
  go_enter Tryz.func32, Tryz.ntmps32
  go_wp2_with (go_at_call 58; refine (record_any ⟨6, s, l, f, nm⟩ p n cap _).mono ?_; rintro e w1 ⟨rfl, h1⟩)
  go_returns
  exact ⟨rfl, (by (repeat' first | with_reducible exact Fresh.refl _ | with_reducible assumption | with_reducible refine Fresh.alloc ?_ _ _ | with_reducible refine Fresh.drew ?_ | with_reducible refine Fresh.drewN ?_ _ | with_reducible refine Fresh.setCell ?_ ?_ _ | with_reducible refine Fresh.trans ?_ (by assumption) | (simp; done) | (simp; omega)))⟩
theorem view0 (hk : h.kind < 1 ∨ 7 < h.kind) : Calls Tryz.prog 32 #[.agg #[.int .i64 h.kind, .int .i64 h.size, .int .i64 h.len, .bool h.flag, .string h.name, .slice p n cap]] w fun e w' => e = .returned .nilIface ∧ Fresh w w' := by
  obtain ⟨k, s, l, f, nm⟩ := h
  simp only at hk
  have k1 : (k == 1) = false := by simp; omega
  have k2 : (k == 2) = false := by simp; omega
  have k3 : (k == 3) = false := by simp; omega
  have k4 : (k == 4) = false := by simp; omega
  have k5 : (k == 5) = false := by simp; omega
  have k6 : (k == 6) = false := by simp; omega
  have k7 : (k == 7) = false := by simp; omega
  clear hk
  go_enter Tryz.func32, Tryz.ntmps32
  go_wp2_with fail
  go_returns
  exact ⟨rfl, (by (repeat' first | with_reducible exact Fresh.refl _ | with_reducible assumption | with_reducible refine Fresh.alloc ?_ _ _ | with_reducible refine Fresh.drew ?_ | with_reducible refine Fresh.drewN ?_ _ | with_reducible refine Fresh.setCell ?_ ?_ _ | with_reducible refine Fresh.trans ?_ (by assumption) | (simp; done) | (simp; omega)))⟩
variable (w0 : World) (hf : Fresh w0 w) (hks : Kids ok w0 ks p n cap)
include hf hks
theorem view4 (hk : h.kind = 4) : Calls Tryz.prog 32 #[.agg #[.int .i64 h.kind, .int .i64 h.size, .int .i64 h.len, .bool h.flag, .string h.name, .slice p n cap]] w fun e w' => (∃ p' n' cap', e = .returned (.iface 66 (tv ks.hd p' n' cap')) ∧ Kids ok w0 ks.kids p' n' cap') ∧ Fresh w w' := by
  obtain ⟨k, s, l, f, nm⟩ := h
  simp only at hk
  subst hk
  have HK := Lib.hid hks
  have HF := Lib.hid hf
  clear hks hf
  go_enter Tryz.func32, Tryz.ntmps32
  go_wp2_with (go_at_call 56; refine (pointer_any ⟨4, s, l, f, nm⟩ ks p n cap _ w0 (HF.out.trans (by (repeat' first | with_reducible exact Fresh.refl _ | with_reducible assumption | with_reducible refine Fresh.alloc ?_ _ _ | with_reducible refine Fresh.drew ?_ | with_reducible refine Fresh.drewN ?_ _ | with_reducible refine Fresh.setCell ?_ ?_ _ | with_reducible refine Fresh.trans ?_ (by assumption) | (simp; done) | (simp; omega)))) HK.out).mono ?_; rintro e w1 ⟨⟨p', n', cap', rfl, hk'⟩, h1⟩; have HK' := Lib.hid hk'; clear hk')
  go_returns
  exact ⟨⟨_, _, _, rfl, HK'.out⟩, (by (repeat' first | with_reducible exact Fresh.refl _ | with_reducible assumption | with_reducible refine Fresh.alloc ?_ _ _ | with_reducible refine Fresh.drew ?_ | with_reducible refine Fresh.drewN ?_ _ | with_reducible refine Fresh.setCell ?_ ?_ _ | with_reducible refine Fresh.trans ?_ (by assumption) | (simp; done) | (simp; omega)))⟩
theorem view5 (hk : h.kind = 5) : Calls Tryz.prog 32 #[.agg #[.int .i64 h.kind, .int .i64 h.size, .int .i64 h.len, .bool h.flag, .string h.name, .slice p n cap]] w fun e w' => (∃ p' n' cap', e = .returned (.iface 58 (.agg #[.int .i64 ks.hd.kind, .int .i64 ks.hd.size, .int .i64 ks.hd.len, .bool ks.hd.flag, .string ks.hd.name, .slice p' n' cap', .int .i64 h.len])) ∧ Kids ok w0 ks.kids p' n' cap') ∧ Fresh w w' := by
  obtain ⟨k, s, l, f, nm⟩ := h
  simp only at hk
  subst hk
  have HK := Lib.hid hks
  have HF := Lib.hid hf
  clear hks hf
  go_enter Tryz.func32, Tryz.ntmps32
  go_wp2_with (go_at_call 57; refine (array_any ⟨5, s, l, f, nm⟩ ks p n cap _ w0 (HF.out.trans (by (repeat' first | with_reducible exact Fresh.refl _ | with_reducible assumption | with_reducible refine Fresh.alloc ?_ _ _ | with_reducible refine Fresh.drew ?_ | with_reducible refine Fresh.drewN ?_ _ | with_reducible refine Fresh.setCell ?_ ?_ _ | with_reducible refine Fresh.trans ?_ (by assumption) | (simp; done) | (simp; omega)))) HK.out).mono ?_; rintro e w1 ⟨⟨p', n', cap', rfl, hk'⟩, h1⟩; have HK' := Lib.hid hk'; clear hk')
  go_returns
  exact ⟨⟨_, _, _, rfl, HK'.out⟩, (by (repeat' first | with_reducible exact Fresh.refl _ | with_reducible assumption | with_reducible refine Fresh.alloc ?_ _ _ | with_reducible refine Fresh.drew ?_ | with_reducible refine Fresh.drewN ?_ _ | with_reducible refine Fresh.setCell ?_ ?_ _ | with_reducible refine Fresh.trans ?_ (by assumption) | (simp; done) | (simp; omega)))⟩
theorem view7 (hk : h.kind = 7) : Calls Tryz.prog 32 #[.agg #[.int .i64 h.kind, .int .i64 h.size, .int .i64 h.len, .bool h.flag, .string h.name, .slice p n cap]] w fun e w' => (∃ p' n' cap' q m qc, e = .returned (.iface 94 (.agg #[.int .i64 ks.hd.kind, .int .i64 ks.hd.size, .int .i64 ks.hd.len, .bool ks.hd.flag, .string ks.hd.name, .slice p' n' cap', .slice q m qc])) ∧ Kids ok w0 ks.kids p' n' cap' ∧ Kids ok w0 ks.rest q m qc) ∧ Fresh w w' := by
  obtain ⟨k, s, l, f, nm⟩ := h
  simp only at hk
  subst hk
  have HK := Lib.hid hks
  have HF := Lib.hid hf
  clear hks hf
  go_enter Tryz.func32, Tryz.ntmps32
  go_wp2_with (go_at_call 59; refine (function_any ⟨7, s, l, f, nm⟩ ks p n cap _ w0 (HF.out.trans (by (repeat' first | with_reducible exact Fresh.refl _ | with_reducible assumption | with_reducible refine Fresh.alloc ?_ _ _ | with_reducible refine Fresh.drew ?_ | with_reducible refine Fresh.drewN ?_ _ | with_reducible refine Fresh.setCell ?_ ?_ _ | with_reducible refine Fresh.trans ?_ (by assumption) | (simp; done) | (simp; omega)))) HK.out).mono ?_; rintro e w1 ⟨⟨p', n', cap', q, m, qc, rfl, hk', hq⟩, h1⟩; have HK' := Lib.hid hk'; have HQ := Lib.hid hq; clear hk' hq)
  go_returns
  exact ⟨⟨_, _, _, _, _, _, rfl, HK'.out, HQ.out⟩, (by (repeat' first | with_reducible exact Fresh.refl _ | with_reducible assumption | with_reducible refine Fresh.alloc ?_ _ _ | with_reducible refine Fresh.drew ?_ | with_reducible refine Fresh.drewN ?_ _ | with_reducible refine Fresh.setCell ?_ ?_ _ | with_reducible refine Fresh.trans ?_ (by assumption) | (simp; done) | (simp; omega)))⟩
end
theorem as_87_87 (v : Value) (w : World) : (Instr.typeAssert (.iface 87 v) 20 87 true).run Tryz.prog w = .ok (.tuple #[v, .bool true]) w := by kernel_rfl
theorem as_87_36 (v : Value) (w : World) : (Instr.typeAssert (.iface 87 v) 20 36 true).run Tryz.prog w = .ok (.tuple #[.agg #[.int .i64 0, .bool false], .bool false]) w := by kernel_rfl
theorem as_87_45 (v : Value) (w : World) : (Instr.typeAssert (.iface 87 v) 20 45 true).run Tryz.prog w = .ok (.tuple #[.agg #[], .bool false]) w := by kernel_rfl
theorem as_87_56 (v : Value) (w : World) : (Instr.typeAssert (.iface 87 v) 20 56 true).run Tryz.prog w = .ok (.tuple #[.agg #[.string ⟨#[]⟩, .bool false], .bool false]) w := by kernel_rfl
theorem as_87_66 (v : Value) (w : World) : (Instr.typeAssert (.iface 87 v) 20 66 true).run Tryz.prog w = .ok (.tuple #[.agg #[.int .i64 0, .int .i64 0, .int .i64 0, .bool false, .string ⟨#[]⟩, .slice none 0 0], .bool false]) w := by kernel_rfl
theorem as_87_58 (v : Value) (w : World) : (Instr.typeAssert (.iface 87 v) 20 58 true).run Tryz.prog w = .ok (.tuple #[.agg #[.int .i64 0, .int .i64 0, .int .i64 0, .bool false, .string ⟨#[]⟩, .slice none 0 0, .int .i64 0], .bool false]) w := by kernel_rfl
theorem as_87_94 (v : Value) (w : World) : (Instr.typeAssert (.iface 87 v) 20 94 true).run Tryz.prog w = .ok (.tuple #[.agg #[.int .i64 0, .int .i64 0, .int .i64 0, .bool false, .string ⟨#[]⟩, .slice none 0 0, .slice none 0 0], .bool false]) w := by kernel_rfl
theorem as_36_87 (v : Value) (w : World) : (Instr.typeAssert (.iface 36 v) 20 87 true).run Tryz.prog w = .ok (.tuple #[.agg #[], .bool false]) w := by kernel_rfl
theorem as_36_36 (v : Value) (w : World) : (Instr.typeAssert (.iface 36 v) 20 36 true).run Tryz.prog w = .ok (.tuple #[v, .bool true]) w := by kernel_rfl
theorem as_36_45 (v : Value) (w : World) : (Instr.typeAssert (.iface 36 v) 20 45 true).run Tryz.prog w = .ok (.tuple #[.agg #[], .bool false]) w := by kernel_rfl
theorem as_36_56 (v : Value) (w : World) : (Instr.typeAssert (.iface 36 v) 20 56 true).run Tryz.prog w = .ok (.tuple #[.agg #[.string ⟨#[]⟩, .bool false], .bool false]) w := by kernel_rfl
theorem as_36_66 (v : Value) (w : World) : (Instr.typeAssert (.iface 36 v) 20 66 true).run Tryz.prog w = .ok (.tuple #[.agg #[.int .i64 0, .int .i64 0, .int .i64 0, .bool false, .string ⟨#[]⟩, .slice none 0 0], .bool false]) w := by kernel_rfl
theorem as_36_58 (v : Value) (w : World) : (Instr.typeAssert (.iface 36 v) 20 58 true).run Tryz.prog w = .ok (.tuple #[.agg #[.int .i64 0, .int .i64 0, .int .i64 0, .bool false, .string ⟨#[]⟩, .slice none 0 0, .int .i64 0], .bool false]) w := by kernel_rfl
theorem as_36_94 (v : Value) (w : World) : (Instr.typeAssert (.iface 36 v) 20 94 true).run Tryz.prog w = .ok (.tuple #[.agg #[.int .i64 0, .int .i64 0, .int .i64 0, .bool false, .string ⟨#[]⟩, .slice none 0 0, .slice none 0 0], .bool false]) w := by kernel_rfl
theorem as_45_87 (v : Value) (w : World) : (Instr.typeAssert (.iface 45 v) 20 87 true).run Tryz.prog w = .ok (.tuple #[.agg #[], .bool false]) w := by kernel_rfl
theorem as_45_36 (v : Value) (w : World) : (Instr.typeAssert (.iface 45 v) 20 36 true).run Tryz.prog w = .ok (.tuple #[.agg #[.int .i64 0, .bool false], .bool false]) w := by kernel_rfl
theorem as_45_45 (v : Value) (w : World) : (Instr.typeAssert (.iface 45 v) 20 45 true).run Tryz.prog w = .ok (.tuple #[v, .bool true]) w := by kernel_rfl
theorem as_45_56 (v : Value) (w : World) : (Instr.typeAssert (.iface 45 v) 20 56 true).run Tryz.prog w = .ok (.tuple #[.agg #[.string ⟨#[]⟩, .bool false], .bool false]) w := by kernel_rfl
theorem as_45_66 (v : Value) (w : World) : (Instr.typeAssert (.iface 45 v) 20 66 true).run Tryz.prog w = .ok (.tuple #[.agg #[.int .i64 0, .int .i64 0, .int .i64 0, .bool false, .string ⟨#[]⟩, .slice none 0 0], .bool false]) w := by kernel_rfl
theorem as_45_58 (v : Value) (w : World) : (Instr.typeAssert (.iface 45 v) 20 58 true).run Tryz.prog w = .ok (.tuple #[.agg #[.int .i64 0, .int .i64 0, .int .i64 0, .bool false, .string ⟨#[]⟩, .slice none 0 0, .int .i64 0], .bool false]) w := by kernel_rfl
theorem as_45_94 (v : Value) (w : World) : (Instr.typeAssert (.iface 45 v) 20 94 true).run Tryz.prog w = .ok (.tuple #[.agg #[.int .i64 0, .int .i64 0, .int .i64 0, .bool false, .string ⟨#[]⟩, .slice none 0 0, .slice none 0 0], .bool false]) w := by kernel_rfl
theorem as_56_87 (v : Value) (w : World) : (Instr.typeAssert (.iface 56 v) 20 87 true).run Tryz.prog w = .ok (.tuple #[.agg #[], .bool false]) w := by kernel_rfl
theorem as_56_36 (v : Value) (w : World) : (Instr.typeAssert (.iface 56 v) 20 36 true).run Tryz.prog w = .ok (.tuple #[.agg #[.int .i64 0, .bool false], .bool false]) w := by kernel_rfl
theorem as_56_45 (v : Value) (w : World) : (Instr.typeAssert (.iface 56 v) 20 45 true).run Tryz.prog w = .ok (.tuple #[.agg #[], .bool false]) w := by kernel_rfl
theorem as_56_56 (v : Value) (w : World) : (Instr.typeAssert (.iface 56 v) 20 56 true).run Tryz.prog w = .ok (.tuple #[v, .bool true]) w := by kernel_rfl
theorem as_56_66 (v : Value) (w : World) : (Instr.typeAssert (.iface 56 v) 20 66 true).run Tryz.prog w = .ok (.tuple #[.agg #[.int .i64 0, .int .i64 0, .int .i64 0, .bool false, .string ⟨#[]⟩, .slice none 0 0], .bool false]) w := by kernel_rfl
theorem as_56_58 (v : Value) (w : World) : (Instr.typeAssert (.iface 56 v) 20 58 true).run Tryz.prog w = .ok (.tuple #[.agg #[.int .i64 0, .int .i64 0, .int .i64 0, .bool false, .string ⟨#[]⟩, .slice none 0 0, .int .i64 0], .bool false]) w := by kernel_rfl
theorem as_56_94 (v : Value) (w : World) : (Instr.typeAssert (.iface 56 v) 20 94 true).run Tryz.prog w = .ok (.tuple #[.agg #[.int .i64 0, .int .i64 0, .int .i64 0, .bool false, .string ⟨#[]⟩, .slice none 0 0, .slice none 0 0], .bool false]) w := by kernel_rfl
theorem as_66_87 (v : Value) (w : World) : (Instr.typeAssert (.iface 66 v) 20 87 true).run Tryz.prog w = .ok (.tuple #[.agg #[], .bool false]) w := by kernel_rfl
theorem as_66_36 (v : Value) (w : World) : (Instr.typeAssert (.iface 66 v) 20 36 true).run Tryz.prog w = .ok (.tuple #[.agg #[.int .i64 0, .bool false], .bool false]) w := by kernel_rfl
theorem as_66_45 (v : Value) (w : World) : (Instr.typeAssert (.iface 66 v) 20 45 true).run Tryz.prog w = .ok (.tuple #[.agg #[], .bool false]) w := by kernel_rfl
theorem as_66_56 (v : Value) (w : World) : (Instr.typeAssert (.iface 66 v) 20 56 true).run Tryz.prog w = .ok (.tuple #[.agg #[.string ⟨#[]⟩, .bool false], .bool false]) w := by kernel_rfl
theorem as_66_66 (v : Value) (w : World) : (Instr.typeAssert (.iface 66 v) 20 66 true).run Tryz.prog w = .ok (.tuple #[v, .bool true]) w := by kernel_rfl
theorem as_66_58 (v : Value) (w : World) : (Instr.typeAssert (.iface 66 v) 20 58 true).run Tryz.prog w = .ok (.tuple #[.agg #[.int .i64 0, .int .i64 0, .int .i64 0, .bool false, .string ⟨#[]⟩, .slice none 0 0, .int .i64 0], .bool false]) w := by kernel_rfl
theorem as_66_94 (v : Value) (w : World) : (Instr.typeAssert (.iface 66 v) 20 94 true).run Tryz.prog w = .ok (.tuple #[.agg #[.int .i64 0, .int .i64 0, .int .i64 0, .bool false, .string ⟨#[]⟩, .slice none 0 0, .slice none 0 0], .bool false]) w := by kernel_rfl
theorem as_58_87 (v : Value) (w : World) : (Instr.typeAssert (.iface 58 v) 20 87 true).run Tryz.prog w = .ok (.tuple #[.agg #[], .bool false]) w := by kernel_rfl
theorem as_58_36 (v : Value) (w : World) : (Instr.typeAssert (.iface 58 v) 20 36 true).run Tryz.prog w = .ok (.tuple #[.agg #[.int .i64 0, .bool false], .bool false]) w := by kernel_rfl
theorem as_58_45 (v : Value) (w : World) : (Instr.typeAssert (.iface 58 v) 20 45 true).run Tryz.prog w = .ok (.tuple #[.agg #[], .bool false]) w := by kernel_rfl
theorem as_58_56 (v : Value) (w : World) : (Instr.typeAssert (.iface 58 v) 20 56 true).run Tryz.prog w = .ok (.tuple #[.agg #[.string ⟨#[]⟩, .bool false], .bool false]) w := by kernel_rfl
theorem as_58_66 (v : Value) (w : World) : (Instr.typeAssert (.iface 58 v) 20 66 true).run Tryz.prog w = .ok (.tuple #[.agg #[.int .i64 0, .int .i64 0, .int .i64 0, .bool false, .string ⟨#[]⟩, .slice none 0 0], .bool false]) w := by kernel_rfl
theorem as_58_58 (v : Value) (w : World) : (Instr.typeAssert (.iface 58 v) 20 58 true).run Tryz.prog w = .ok (.tuple #[v, .bool true]) w := by kernel_rfl
theorem as_58_94 (v : Value) (w : World) : (Instr.typeAssert (.iface 58 v) 20 94 true).run Tryz.prog w = .ok (.tuple #[.agg #[.int .i64 0, .int .i64 0, .int .i64 0, .bool false, .string ⟨#[]⟩, .slice none 0 0, .slice none 0 0], .bool false]) w := by kernel_rfl
theorem as_94_87 (v : Value) (w : World) : (Instr.typeAssert (.iface 94 v) 20 87 true).run Tryz.prog w = .ok (.tuple #[.agg #[], .bool false]) w := by kernel_rfl
theorem as_94_36 (v : Value) (w : World) : (Instr.typeAssert (.iface 94 v) 20 36 true).run Tryz.prog w = .ok (.tuple #[.agg #[.int .i64 0, .bool false], .bool false]) w := by kernel_rfl
theorem as_94_45 (v : Value) (w : World) : (Instr.typeAssert (.iface 94 v) 20 45 true).run Tryz.prog w = .ok (.tuple #[.agg #[], .bool false]) w := by kernel_rfl
theorem as_94_56 (v : Value) (w : World) : (Instr.typeAssert (.iface 94 v) 20 56 true).run Tryz.prog w = .ok (.tuple #[.agg #[.string ⟨#[]⟩, .bool false], .bool false]) w := by kernel_rfl
theorem as_94_66 (v : Value) (w : World) : (Instr.typeAssert (.iface 94 v) 20 66 true).run Tryz.prog w = .ok (.tuple #[.agg #[.int .i64 0, .int .i64 0, .int .i64 0, .bool false, .string ⟨#[]⟩, .slice none 0 0], .bool false]) w := by kernel_rfl
theorem as_94_58 (v : Value) (w : World) : (Instr.typeAssert (.iface 94 v) 20 58 true).run Tryz.prog w = .ok (.tuple #[.agg #[.int .i64 0, .int .i64 0, .int .i64 0, .bool false, .string ⟨#[]⟩, .slice none 0 0, .int .i64 0], .bool false]) w := by kernel_rfl
theorem as_94_94 (v : Value) (w : World) : (Instr.typeAssert (.iface 94 v) 20 94 true).run Tryz.prog w = .ok (.tuple #[v, .bool true]) w := by kernel_rfl
theorem as_nil_87 (w : World) : (Instr.typeAssert .nilIface 20 87 true).run Tryz.prog w = .ok (.tuple #[.agg #[], .bool false]) w := by kernel_rfl
theorem as_nil_36 (w : World) : (Instr.typeAssert .nilIface 20 36 true).run Tryz.prog w = .ok (.tuple #[.agg #[.int .i64 0, .bool false], .bool false]) w := by kernel_rfl
theorem as_nil_45 (w : World) : (Instr.typeAssert .nilIface 20 45 true).run Tryz.prog w = .ok (.tuple #[.agg #[], .bool false]) w := by kernel_rfl
theorem as_nil_56 (w : World) : (Instr.typeAssert .nilIface 20 56 true).run Tryz.prog w = .ok (.tuple #[.agg #[.string ⟨#[]⟩, .bool false], .bool false]) w := by kernel_rfl
theorem as_nil_66 (w : World) : (Instr.typeAssert .nilIface 20 66 true).run Tryz.prog w = .ok (.tuple #[.agg #[.int .i64 0, .int .i64 0, .int .i64 0, .bool false, .string ⟨#[]⟩, .slice none 0 0], .bool false]) w := by kernel_rfl
theorem as_nil_58 (w : World) : (Instr.typeAssert .nilIface 20 58 true).run Tryz.prog w = .ok (.tuple #[.agg #[.int .i64 0, .int .i64 0, .int .i64 0, .bool false, .string ⟨#[]⟩, .slice none 0 0, .int .i64 0], .bool false]) w := by kernel_rfl
theorem as_nil_94 (w : World) : (Instr.typeAssert .nilIface 20 94 true).run Tryz.prog w = .ok (.tuple #[.agg #[.int .i64 0, .int .i64 0, .int .i64 0, .bool false, .string ⟨#[]⟩, .slice none 0 0, .slice none 0 0], .bool false]) w := by kernel_rfl
end Go.Proofs.YteiomcbphbbpkaaGreatDoor
