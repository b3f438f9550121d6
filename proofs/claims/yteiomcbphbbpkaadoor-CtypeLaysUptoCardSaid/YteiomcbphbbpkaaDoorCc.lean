/- View: the form of a type by its kind; what type assertions on it answer. -/
import Derived.Test.YteiomcbphbbpkaaDoorCb
namespace Go.Proofs.YteiomcbphbbpkaaDoor
set_option linter.unusedSimpArgs false
set_option linter.unusedVariables false
open Go.RowKit
variable {ok : Nat → Prop}

section
variable (h : Hd) (ks : Tys) (p : Option Addr) (n cap : Nat) (w : World)
theorem view1 (hk : h.kind = 1) : Calls Tryd.prog 43 #[.agg #[.int .i64 h.kind, .int .i64 h.size, .int .i64 h.len, .bool h.flag, .string h.name, .slice p n cap]] w fun e w' => e = .returned (.iface 98 (.agg #[])) ∧ Fresh w w' := by
  obtain ⟨k, s, l, f, nm⟩ := h
  simp only at hk
  subst hk
  go_enter Tryd.func43, Tryd.ntmps43
  go_wp2_with (go_at_call 74; refine (void_any ⟨1, s, l, f, nm⟩ p n cap _).mono ?_; rintro e w1 ⟨rfl, h1⟩)
  go_returns
  exact ⟨rfl, (by (repeat' first | with_reducible exact Fresh.refl _ | with_reducible assumption | with_reducible refine Fresh.alloc ?_ _ _ | with_reducible refine Fresh.drew ?_ | with_reducible refine Fresh.drewN ?_ _ | with_reducible refine Fresh.setCell ?_ ?_ _ | with_reducible refine Fresh.trans ?_ (by assumption) | (simp; done) | (simp; omega)))⟩
theorem view2 (hk : h.kind = 2) : Calls Tryd.prog 43 #[.agg #[.int .i64 h.kind, .int .i64 h.size, .int .i64 h.len, .bool h.flag, .string h.name, .slice p n cap]] w fun e w' => e = .returned (.iface 62 (.agg #[.int .i64 h.size, .bool h.flag])) ∧ Fresh w w' := by
  obtain ⟨k, s, l, f, nm⟩ := h
  simp only at hk
  subst hk
  go_enter Tryd.func43, Tryd.ntmps43
  go_wp2_with (go_at_call 53; refine (number_any ⟨2, s, l, f, nm⟩ p n cap _).mono ?_; rintro e w1 ⟨rfl, h1⟩)
  go_returns
  exact ⟨rfl, (by (repeat' first | with_reducible exact Fresh.refl _ | with_reducible assumption | with_reducible refine Fresh.alloc ?_ _ _ | with_reducible refine Fresh.drew ?_ | with_reducible refine Fresh.drewN ?_ _ | with_reducible refine Fresh.setCell ?_ ?_ _ | with_reducible refine Fresh.trans ?_ (by assumption) | (simp; done) | (simp; omega)))⟩
theorem view3 (hk : h.kind = 3) : Calls Tryd.prog 43 #[.agg #[.int .i64 h.kind, .int .i64 h.size, .int .i64 h.len, .bool h.flag, .string h.name, .slice p n cap]] w fun e w' => e = .returned (.iface 65 (.agg #[])) ∧ Fresh w w' := by
  obtain ⟨k, s, l, f, nm⟩ := h
  simp only at hk
  subst hk
  go_enter Tryd.func43, Tryd.ntmps43
  go_wp2_with (go_at_call 75; refine (float_any ⟨3, s, l, f, nm⟩ p n cap _).mono ?_; rintro e w1 ⟨rfl, h1⟩)
  go_returns
  exact ⟨rfl, (by (repeat' first | with_reducible exact Fresh.refl _ | with_reducible assumption | with_reducible refine Fresh.alloc ?_ _ _ | with_reducible refine Fresh.drew ?_ | with_reducible refine Fresh.drewN ?_ _ | with_reducible refine Fresh.setCell ?_ ?_ _ | with_reducible refine Fresh.trans ?_ (by assumption) | (simp; done) | (simp; omega)))⟩
theorem view6 (hk : h.kind = 6) : Calls Tryd.prog 43 #[.agg #[.int .i64 h.kind, .int .i64 h.size, .int .i64 h.len, .bool h.flag, .string h.name, .slice p n cap]] w fun e w' => e = .returned (.iface 67 (.agg #[.string h.name, .bool h.flag])) ∧ Fresh w w' := by
  obtain ⟨k, s, l, f, nm⟩ := h
  simp only at hk
  subst hk
  go_enter Tryd.func43, Tryd.ntmps43
  go_wp2_with (go_at_call 54; refine (record_any ⟨6, s, l, f, nm⟩ p n cap _).mono ?_; rintro e w1 ⟨rfl, h1⟩)
  go_returns
  exact ⟨rfl, (by (repeat' first | with_reducible exact Fresh.refl _ | with_reducible assumption | with_reducible refine Fresh.alloc ?_ _ _ | with_reducible refine Fresh.drew ?_ | with_reducible refine Fresh.drewN ?_ _ | with_reducible refine Fresh.setCell ?_ ?_ _ | with_reducible refine Fresh.trans ?_ (by assumption) | (simp; done) | (simp; omega)))⟩
theorem view0 (hk : h.kind < 1 ∨ 7 < h.kind) : Calls Tryd.prog 43 #[.agg #[.int .i64 h.kind, .int .i64 h.size, .int .i64 h.len, .bool h.flag, .string h.name, .slice p n cap]] w fun e w' => e = .returned .nilIface ∧ Fresh w w' := by
  obtain ⟨k, s, l, f, nm⟩ := h
  simp only at hk
  have k1 : (k == 1) = false := by simp; omega
  have k2 : (k == 2) = false := by simp; omega
  have k3 : (k == 3) = false := by simp; omega
  have k4 : (k == 4) = false := by simp; omega
  have k5 : (k == 5) = false := by simp; omega
  have k6 : (k == 6) = false := by simp; omega
  have k7 : (k == 7) = false := by simp; omega
  clear hk
  go_enter Tryd.func43, Tryd.ntmps43
  go_wp2_with fail
  go_returns
  exact ⟨rfl, (by (repeat' first | with_reducible exact Fresh.refl _ | with_reducible assumption | with_reducible refine Fresh.alloc ?_ _ _ | with_reducible refine Fresh.drew ?_ | with_reducible refine Fresh.drewN ?_ _ | with_reducible refine Fresh.setCell ?_ ?_ _ | with_reducible refine Fresh.trans ?_ (by assumption) | (simp; done) | (simp; omega)))⟩
variable (w0 : World) (hf : Fresh w0 w) (hks : Kids ok w0 ks p n cap)
include hf hks
theorem view4 (hk : h.kind = 4) : Calls Tryd.prog 43 #[.agg #[.int .i64 h.kind, .int .i64 h.size, .int .i64 h.len, .bool h.flag, .string h.name, .slice p n cap]] w fun e w' => (∃ p' n' cap', e = .returned (.iface 71 (tv ks.hd p' n' cap')) ∧ Kids ok w0 ks.kids p' n' cap') ∧ Fresh w w' := by
  obtain ⟨k, s, l, f, nm⟩ := h
  simp only at hk
  subst hk
  have HK := Lib.hid hks
  have HF := Lib.hid hf
  clear hks hf
  go_enter Tryd.func43, Tryd.ntmps43
  go_wp2_with (go_at_call 50; refine (pointer_any ⟨4, s, l, f, nm⟩ ks p n cap _ w0 (HF.out.trans (by (repeat' first | with_reducible exact Fresh.refl _ | with_reducible assumption | with_reducible refine Fresh.alloc ?_ _ _ | with_reducible refine Fresh.drew ?_ | with_reducible refine Fresh.drewN ?_ _ | with_reducible refine Fresh.setCell ?_ ?_ _ | with_reducible refine Fresh.trans ?_ (by assumption) | (simp; done) | (simp; omega)))) HK.out).mono ?_; rintro e w1 ⟨⟨p', n', cap', rfl, hk'⟩, h1⟩; have HK' := Lib.hid hk'; clear hk')
  go_returns
  exact ⟨⟨_, _, _, rfl, HK'.out⟩, (by (repeat' first | with_reducible exact Fresh.refl _ | with_reducible assumption | with_reducible refine Fresh.alloc ?_ _ _ | with_reducible refine Fresh.drew ?_ | with_reducible refine Fresh.drewN ?_ _ | with_reducible refine Fresh.setCell ?_ ?_ _ | with_reducible refine Fresh.trans ?_ (by assumption) | (simp; done) | (simp; omega)))⟩
theorem view5 (hk : h.kind = 5) : Calls Tryd.prog 43 #[.agg #[.int .i64 h.kind, .int .i64 h.size, .int .i64 h.len, .bool h.flag, .string h.name, .slice p n cap]] w fun e w' => (∃ p' n' cap', e = .returned (.iface 69 (.agg #[.int .i64 ks.hd.kind, .int .i64 ks.hd.size, .int .i64 ks.hd.len, .bool ks.hd.flag, .string ks.hd.name, .slice p' n' cap', .int .i64 h.len])) ∧ Kids ok w0 ks.kids p' n' cap') ∧ Fresh w w' := by
  obtain ⟨k, s, l, f, nm⟩ := h
  simp only at hk
  subst hk
  have HK := Lib.hid hks
  have HF := Lib.hid hf
  clear hks hf
  go_enter Tryd.func43, Tryd.ntmps43
  go_wp2_with (go_at_call 51; refine (array_any ⟨5, s, l, f, nm⟩ ks p n cap _ w0 (HF.out.trans (by (repeat' first | with_reducible exact Fresh.refl _ | with_reducible assumption | with_reducible refine Fresh.alloc ?_ _ _ | with_reducible refine Fresh.drew ?_ | with_reducible refine Fresh.drewN ?_ _ | with_reducible refine Fresh.setCell ?_ ?_ _ | with_reducible refine Fresh.trans ?_ (by assumption) | (simp; done) | (simp; omega)))) HK.out).mono ?_; rintro e w1 ⟨⟨p', n', cap', rfl, hk'⟩, h1⟩; have HK' := Lib.hid hk'; clear hk')
  go_returns
  exact ⟨⟨_, _, _, rfl, HK'.out⟩, (by (repeat' first | with_reducible exact Fresh.refl _ | with_reducible assumption | with_reducible refine Fresh.alloc ?_ _ _ | with_reducible refine Fresh.drew ?_ | with_reducible refine Fresh.drewN ?_ _ | with_reducible refine Fresh.setCell ?_ ?_ _ | with_reducible refine Fresh.trans ?_ (by assumption) | (simp; done) | (simp; omega)))⟩
theorem view7 (hk : h.kind = 7) : Calls Tryd.prog 43 #[.agg #[.int .i64 h.kind, .int .i64 h.size, .int .i64 h.len, .bool h.flag, .string h.name, .slice p n cap]] w fun e w' => (∃ p' n' cap' q m qc, e = .returned (.iface 85 (.agg #[.int .i64 ks.hd.kind, .int .i64 ks.hd.size, .int .i64 ks.hd.len, .bool ks.hd.flag, .string ks.hd.name, .slice p' n' cap', .slice q m qc])) ∧ Kids ok w0 ks.kids p' n' cap' ∧ Kids ok w0 ks.rest q m qc) ∧ Fresh w w' := by
  obtain ⟨k, s, l, f, nm⟩ := h
  simp only at hk
  subst hk
  have HK := Lib.hid hks
  have HF := Lib.hid hf
  clear hks hf
  go_enter Tryd.func43, Tryd.ntmps43
  go_wp2_with (go_at_call 52; refine (function_any ⟨7, s, l, f, nm⟩ ks p n cap _ w0 (HF.out.trans (by (repeat' first | with_reducible exact Fresh.refl _ | with_reducible assumption | with_reducible refine Fresh.alloc ?_ _ _ | with_reducible refine Fresh.drew ?_ | with_reducible refine Fresh.drewN ?_ _ | with_reducible refine Fresh.setCell ?_ ?_ _ | with_reducible refine Fresh.trans ?_ (by assumption) | (simp; done) | (simp; omega)))) HK.out).mono ?_; rintro e w1 ⟨⟨p', n', cap', q, m, qc, rfl, hk', hq⟩, h1⟩; have HK' := Lib.hid hk'; have HQ := Lib.hid hq; clear hk' hq)
  go_returns
  exact ⟨⟨_, _, _, _, _, _, rfl, HK'.out, HQ.out⟩, (by (repeat' first | with_reducible exact Fresh.refl _ | with_reducible assumption | with_reducible refine Fresh.alloc ?_ _ _ | with_reducible refine Fresh.drew ?_ | with_reducible refine Fresh.drewN ?_ _ | with_reducible refine Fresh.setCell ?_ ?_ _ | with_reducible refine Fresh.trans ?_ (by assumption) | (simp; done) | (simp; omega)))⟩
end
theorem as_98_98 (v : Value) (w : World) : (Instr.typeAssert (.iface 98 v) 20 98 true).run Tryd.prog w = .ok (.tuple #[v, .bool true]) w := by kernel_rfl
theorem as_98_62 (v : Value) (w : World) : (Instr.typeAssert (.iface 98 v) 20 62 true).run Tryd.prog w = .ok (.tuple #[.agg #[.int .i64 0, .bool false], .bool false]) w := by kernel_rfl
theorem as_98_65 (v : Value) (w : World) : (Instr.typeAssert (.iface 98 v) 20 65 true).run Tryd.prog w = .ok (.tuple #[.agg #[], .bool false]) w := by kernel_rfl
theorem as_98_67 (v : Value) (w : World) : (Instr.typeAssert (.iface 98 v) 20 67 true).run Tryd.prog w = .ok (.tuple #[.agg #[.string ⟨#[]⟩, .bool false], .bool false]) w := by kernel_rfl
theorem as_98_71 (v : Value) (w : World) : (Instr.typeAssert (.iface 98 v) 20 71 true).run Tryd.prog w = .ok (.tuple #[.agg #[.int .i64 0, .int .i64 0, .int .i64 0, .bool false, .string ⟨#[]⟩, .slice none 0 0], .bool false]) w := by kernel_rfl
theorem as_98_69 (v : Value) (w : World) : (Instr.typeAssert (.iface 98 v) 20 69 true).run Tryd.prog w = .ok (.tuple #[.agg #[.int .i64 0, .int .i64 0, .int .i64 0, .bool false, .string ⟨#[]⟩, .slice none 0 0, .int .i64 0], .bool false]) w := by kernel_rfl
theorem as_98_85 (v : Value) (w : World) : (Instr.typeAssert (.iface 98 v) 20 85 true).run Tryd.prog w = .ok (.tuple #[.agg #[.int .i64 0, .int .i64 0, .int .i64 0, .bool false, .string ⟨#[]⟩, .slice none 0 0, .slice none 0 0], .bool false]) w := by kernel_rfl
theorem as_62_98 (v : Value) (w : World) : (Instr.typeAssert (.iface 62 v) 20 98 true).run Tryd.prog w = .ok (.tuple #[.agg #[], .bool false]) w := by kernel_rfl
theorem as_62_62 (v : Value) (w : World) : (Instr.typeAssert (.iface 62 v) 20 62 true).run Tryd.prog w = .ok (.tuple #[v, .bool true]) w := by kernel_rfl
theorem as_62_65 (v : Value) (w : World) : (Instr.typeAssert (.iface 62 v) 20 65 true).run Tryd.prog w = .ok (.tuple #[.agg #[], .bool false]) w := by kernel_rfl
theorem as_62_67 (v : Value) (w : World) : (Instr.typeAssert (.iface 62 v) 20 67 true).run Tryd.prog w = .ok (.tuple #[.agg #[.string ⟨#[]⟩, .bool false], .bool false]) w := by kernel_rfl
theorem as_62_71 (v : Value) (w : World) : (Instr.typeAssert (.iface 62 v) 20 71 true).run Tryd.prog w = .ok (.tuple #[.agg #[.int .i64 0, .int .i64 0, .int .i64 0, .bool false, .string ⟨#[]⟩, .slice none 0 0], .bool false]) w := by kernel_rfl
theorem as_62_69 (v : Value) (w : World) : (Instr.typeAssert (.iface 62 v) 20 69 true).run Tryd.prog w = .ok (.tuple #[.agg #[.int .i64 0, .int .i64 0, .int .i64 0, .bool false, .string ⟨#[]⟩, .slice none 0 0, .int .i64 0], .bool false]) w := by kernel_rfl
theorem as_62_85 (v : Value) (w : World) : (Instr.typeAssert (.iface 62 v) 20 85 true).run Tryd.prog w = .ok (.tuple #[.agg #[.int .i64 0, .int .i64 0, .int .i64 0, .bool false, .string ⟨#[]⟩, .slice none 0 0, .slice none 0 0], .bool false]) w := by kernel_rfl
theorem as_65_98 (v : Value) (w : World) : (Instr.typeAssert (.iface 65 v) 20 98 true).run Tryd.prog w = .ok (.tuple #[.agg #[], .bool false]) w := by kernel_rfl
theorem as_65_62 (v : Value) (w : World) : (Instr.typeAssert (.iface 65 v) 20 62 true).run Tryd.prog w = .ok (.tuple #[.agg #[.int .i64 0, .bool false], .bool false]) w := by kernel_rfl
theorem as_65_65 (v : Value) (w : World) : (Instr.typeAssert (.iface 65 v) 20 65 true).run Tryd.prog w = .ok (.tuple #[v, .bool true]) w := by kernel_rfl
theorem as_65_67 (v : Value) (w : World) : (Instr.typeAssert (.iface 65 v) 20 67 true).run Tryd.prog w = .ok (.tuple #[.agg #[.string ⟨#[]⟩, .bool false], .bool false]) w := by kernel_rfl
theorem as_65_71 (v : Value) (w : World) : (Instr.typeAssert (.iface 65 v) 20 71 true).run Tryd.prog w = .ok (.tuple #[.agg #[.int .i64 0, .int .i64 0, .int .i64 0, .bool false, .string ⟨#[]⟩, .slice none 0 0], .bool false]) w := by kernel_rfl
theorem as_65_69 (v : Value) (w : World) : (Instr.typeAssert (.iface 65 v) 20 69 true).run Tryd.prog w = .ok (.tuple #[.agg #[.int .i64 0, .int .i64 0, .int .i64 0, .bool false, .string ⟨#[]⟩, .slice none 0 0, .int .i64 0], .bool false]) w := by kernel_rfl
theorem as_65_85 (v : Value) (w : World) : (Instr.typeAssert (.iface 65 v) 20 85 true).run Tryd.prog w = .ok (.tuple #[.agg #[.int .i64 0, .int .i64 0, .int .i64 0, .bool false, .string ⟨#[]⟩, .slice none 0 0, .slice none 0 0], .bool false]) w := by kernel_rfl
theorem as_67_98 (v : Value) (w : World) : (Instr.typeAssert (.iface 67 v) 20 98 true).run Tryd.prog w = .ok (.tuple #[.agg #[], .bool false]) w := by kernel_rfl
theorem as_67_62 (v : Value) (w : World) : (Instr.typeAssert (.iface 67 v) 20 62 true).run Tryd.prog w = .ok (.tuple #[.agg #[.int .i64 0, .bool false], .bool false]) w := by kernel_rfl
theorem as_67_65 (v : Value) (w : World) : (Instr.typeAssert (.iface 67 v) 20 65 true).run Tryd.prog w = .ok (.tuple #[.agg #[], .bool false]) w := by kernel_rfl
theorem as_67_67 (v : Value) (w : World) : (Instr.typeAssert (.iface 67 v) 20 67 true).run Tryd.prog w = .ok (.tuple #[v, .bool true]) w := by kernel_rfl
theorem as_67_71 (v : Value) (w : World) : (Instr.typeAssert (.iface 67 v) 20 71 true).run Tryd.prog w = .ok (.tuple #[.agg #[.int .i64 0, .int .i64 0, .int .i64 0, .bool false, .string ⟨#[]⟩, .slice none 0 0], .bool false]) w := by kernel_rfl
theorem as_67_69 (v : Value) (w : World) : (Instr.typeAssert (.iface 67 v) 20 69 true).run Tryd.prog w = .ok (.tuple #[.agg #[.int .i64 0, .int .i64 0, .int .i64 0, .bool false, .string ⟨#[]⟩, .slice none 0 0, .int .i64 0], .bool false]) w := by kernel_rfl
theorem as_67_85 (v : Value) (w : World) : (Instr.typeAssert (.iface 67 v) 20 85 true).run Tryd.prog w = .ok (.tuple #[.agg #[.int .i64 0, .int .i64 0, .int .i64 0, .bool false, .string ⟨#[]⟩, .slice none 0 0, .slice none 0 0], .bool false]) w := by kernel_rfl
theorem as_71_98 (v : Value) (w : World) : (Instr.typeAssert (.iface 71 v) 20 98 true).run Tryd.prog w = .ok (.tuple #[.agg #[], .bool false]) w := by kernel_rfl
theorem as_71_62 (v : Value) (w : World) : (Instr.typeAssert (.iface 71 v) 20 62 true).run Tryd.prog w = .ok (.tuple #[.agg #[.int .i64 0, .bool false], .bool false]) w := by kernel_rfl
theorem as_71_65 (v : Value) (w : World) : (Instr.typeAssert (.iface 71 v) 20 65 true).run Tryd.prog w = .ok (.tuple #[.agg #[], .bool false]) w := by kernel_rfl
theorem as_71_67 (v : Value) (w : World) : (Instr.typeAssert (.iface 71 v) 20 67 true).run Tryd.prog w = .ok (.tuple #[.agg #[.string ⟨#[]⟩, .bool false], .bool false]) w := by kernel_rfl
theorem as_71_71 (v : Value) (w : World) : (Instr.typeAssert (.iface 71 v) 20 71 true).run Tryd.prog w = .ok (.tuple #[v, .bool true]) w := by kernel_rfl
theorem as_71_69 (v : Value) (w : World) : (Instr.typeAssert (.iface 71 v) 20 69 true).run Tryd.prog w = .ok (.tuple #[.agg #[.int .i64 0, .int .i64 0, .int .i64 0, .bool false, .string ⟨#[]⟩, .slice none 0 0, .int .i64 0], .bool false]) w := by kernel_rfl
theorem as_71_85 (v : Value) (w : World) : (Instr.typeAssert (.iface 71 v) 20 85 true).run Tryd.prog w = .ok (.tuple #[.agg #[.int .i64 0, .int .i64 0, .int .i64 0, .bool false, .string ⟨#[]⟩, .slice none 0 0, .slice none 0 0], .bool false]) w := by kernel_rfl
theorem as_69_98 (v : Value) (w : World) : (Instr.typeAssert (.iface 69 v) 20 98 true).run Tryd.prog w = .ok (.tuple #[.agg #[], .bool false]) w := by kernel_rfl
theorem as_69_62 (v : Value) (w : World) : (Instr.typeAssert (.iface 69 v) 20 62 true).run Tryd.prog w = .ok (.tuple #[.agg #[.int .i64 0, .bool false], .bool false]) w := by kernel_rfl
theorem as_69_65 (v : Value) (w : World) : (Instr.typeAssert (.iface 69 v) 20 65 true).run Tryd.prog w = .ok (.tuple #[.agg #[], .bool false]) w := by kernel_rfl
theorem as_69_67 (v : Value) (w : World) : (Instr.typeAssert (.iface 69 v) 20 67 true).run Tryd.prog w = .ok (.tuple #[.agg #[.string ⟨#[]⟩, .bool false], .bool false]) w := by kernel_rfl
theorem as_69_71 (v : Value) (w : World) : (Instr.typeAssert (.iface 69 v) 20 71 true).run Tryd.prog w = .ok (.tuple #[.agg #[.int .i64 0, .int .i64 0, .int .i64 0, .bool false, .string ⟨#[]⟩, .slice none 0 0], .bool false]) w := by kernel_rfl
theorem as_69_69 (v : Value) (w : World) : (Instr.typeAssert (.iface 69 v) 20 69 true).run Tryd.prog w = .ok (.tuple #[v, .bool true]) w := by kernel_rfl
theorem as_69_85 (v : Value) (w : World) : (Instr.typeAssert (.iface 69 v) 20 85 true).run Tryd.prog w = .ok (.tuple #[.agg #[.int .i64 0, .int .i64 0, .int .i64 0, .bool false, .string ⟨#[]⟩, .slice none 0 0, .slice none 0 0], .bool false]) w := by kernel_rfl
theorem as_85_98 (v : Value) (w : World) : (Instr.typeAssert (.iface 85 v) 20 98 true).run Tryd.prog w = .ok (.tuple #[.agg #[], .bool false]) w := by kernel_rfl
theorem as_85_62 (v : Value) (w : World) : (Instr.typeAssert (.iface 85 v) 20 62 true).run Tryd.prog w = .ok (.tuple #[.agg #[.int .i64 0, .bool false], .bool false]) w := by kernel_rfl
theorem as_85_65 (v : Value) (w : World) : (Instr.typeAssert (.iface 85 v) 20 65 true).run Tryd.prog w = .ok (.tuple #[.agg #[], .bool false]) w := by kernel_rfl
theorem as_85_67 (v : Value) (w : World) : (Instr.typeAssert (.iface 85 v) 20 67 true).run Tryd.prog w = .ok (.tuple #[.agg #[.string ⟨#[]⟩, .bool false], .bool false]) w := by kernel_rfl
theorem as_85_71 (v : Value) (w : World) : (Instr.typeAssert (.iface 85 v) 20 71 true).run Tryd.prog w = .ok (.tuple #[.agg #[.int .i64 0, .int .i64 0, .int .i64 0, .bool false, .string ⟨#[]⟩, .slice none 0 0], .bool false]) w := by kernel_rfl
theorem as_85_69 (v : Value) (w : World) : (Instr.typeAssert (.iface 85 v) 20 69 true).run Tryd.prog w = .ok (.tuple #[.agg #[.int .i64 0, .int .i64 0, .int .i64 0, .bool false, .string ⟨#[]⟩, .slice none 0 0, .int .i64 0], .bool false]) w := by kernel_rfl
theorem as_85_85 (v : Value) (w : World) : (Instr.typeAssert (.iface 85 v) 20 85 true).run Tryd.prog w = .ok (.tuple #[v, .bool true]) w := by kernel_rfl
theorem as_nil_98 (w : World) : (Instr.typeAssert .nilIface 20 98 true).run Tryd.prog w = .ok (.tuple #[.agg #[], .bool false]) w := by kernel_rfl
theorem as_nil_62 (w : World) : (Instr.typeAssert .nilIface 20 62 true).run Tryd.prog w = .ok (.tuple #[.agg #[.int .i64 0, .bool false], .bool false]) w := by kernel_rfl
theorem as_nil_65 (w : World) : (Instr.typeAssert .nilIface 20 65 true).run Tryd.prog w = .ok (.tuple #[.agg #[], .bool false]) w := by kernel_rfl
theorem as_nil_67 (w : World) : (Instr.typeAssert .nilIface 20 67 true).run Tryd.prog w = .ok (.tuple #[.agg #[.string ⟨#[]⟩, .bool false], .bool false]) w := by kernel_rfl
theorem as_nil_71 (w : World) : (Instr.typeAssert .nilIface 20 71 true).run Tryd.prog w = .ok (.tuple #[.agg #[.int .i64 0, .int .i64 0, .int .i64 0, .bool false, .string ⟨#[]⟩, .slice none 0 0], .bool false]) w := by kernel_rfl
theorem as_nil_69 (w : World) : (Instr.typeAssert .nilIface 20 69 true).run Tryd.prog w = .ok (.tuple #[.agg #[.int .i64 0, .int .i64 0, .int .i64 0, .bool false, .string ⟨#[]⟩, .slice none 0 0, .int .i64 0], .bool false]) w := by kernel_rfl
theorem as_nil_85 (w : World) : (Instr.typeAssert .nilIface 20 85 true).run Tryd.prog w = .ok (.tuple #[.agg #[.int .i64 0, .int .i64 0, .int .i64 0, .bool false, .string ⟨#[]⟩, .slice none 0 0, .slice none 0 0], .bool false]) w := by kernel_rfl
end Go.Proofs.YteiomcbphbbpkaaDoor
