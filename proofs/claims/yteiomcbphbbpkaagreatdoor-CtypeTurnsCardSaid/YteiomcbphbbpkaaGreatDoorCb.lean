/- The forms of a type by their names: what View and its like answer. -/
import Derived.Test.YteiomcbphbbpkaaGreatDoorCa
namespace Go.Proofs.YteiomcbphbbpkaaGreatDoor
set_option linter.unusedSimpArgs false
set_option linter.unusedVariables false
open Go.RowKit
variable {ok : Nat → Prop}

theorem rest_any (h : Hd) (ks : Tys) (p : Option Addr) (n cap : Nat) (w0 w : World) (hk : Kids ok w0 ks p n cap) :
    Calls Tryz.prog 84 #[.agg #[.int .i64 h.kind, .int .i64 h.size, .int .i64 h.len, .bool h.flag, .string h.name, .slice p n cap], .int .i64 1] w
      fun e w' => (∃ p' n' cap', e = .returned (.slice p' n' cap') ∧ Kids ok w0 ks.rest p' n' cap') ∧ Fresh w w' := by
  obtain ⟨hn, hc, hm, hr⟩ := hk
  unfold maxLen at hm
  by_cases h1 : 1 < n
  · obtain ⟨B, off, rfl, hrow⟩ := hr.resolve_left (fun h => by have := h.2.1; omega)
    have HK : Hid (Kids ok w0 ks.rest (some ⟨B, off + 6, none⟩) (n - 1) (cap - 1)) := Lib.hid (by
      cases ks with
      | nil => simp [Tys.length] at hn; omega
      | cons h k r => exact ⟨by simp [Tys.length, Tys.rest] at hn ⊢; omega, by omega, by unfold maxLen; omega, Or.inr ⟨B, off + 6, rfl, hrow.2.2⟩⟩)
    clear hn hr hrow
    go_enter Tryz.func84, Tryz.ntmps84
    go_wp2
    go_returns
    exact ⟨⟨_, _, _, rfl, HK.out⟩, (by (repeat' first | with_reducible exact Fresh.refl _ | with_reducible assumption | with_reducible refine Fresh.alloc ?_ _ _ | with_reducible refine Fresh.drew ?_ | with_reducible refine Fresh.drewN ?_ _ | with_reducible refine Fresh.setCell ?_ ?_ _ | with_reducible refine Fresh.trans ?_ (by assumption) | (simp; done) | (simp; omega)))⟩
  · have HK : Hid (Kids ok w0 ks.rest none 0 0) := Lib.hid (by
      cases ks with
      | nil => exact Kids.none w0
      | cons h k r =>
        cases r with
        | nil => exact Kids.none w0
        | cons _ _ _ => simp [Tys.length] at hn; omega)
    clear hn hr
    have hd : decide (1 < (n : Int)) = false := by simp; omega
    go_enter Tryz.func84, Tryz.ntmps84
    go_wp2
    go_returns
    exact ⟨⟨_, _, _, rfl, HK.out⟩, (by (repeat' first | with_reducible exact Fresh.refl _ | with_reducible assumption | with_reducible refine Fresh.alloc ?_ _ _ | with_reducible refine Fresh.drew ?_ | with_reducible refine Fresh.drewN ?_ _ | with_reducible refine Fresh.setCell ?_ ?_ _ | with_reducible refine Fresh.trans ?_ (by assumption) | (simp; done) | (simp; omega)))⟩
section
variable (h : Hd) (ks : Tys) (p : Option Addr) (n cap : Nat) (w : World)
theorem void_any : Calls Tryz.prog 54 #[.agg #[.int .i64 h.kind, .int .i64 h.size, .int .i64 h.len, .bool h.flag, .string h.name, .slice p n cap]] w fun e w' => e = .returned (.agg #[]) ∧ Fresh w w' := by
  go_enter Tryz.func54, Tryz.ntmps54
  go_wp2
  go_returns
  exact ⟨rfl, (by (repeat' first | with_reducible exact Fresh.refl _ | with_reducible assumption | with_reducible refine Fresh.alloc ?_ _ _ | with_reducible refine Fresh.drew ?_ | with_reducible refine Fresh.drewN ?_ _ | with_reducible refine Fresh.setCell ?_ ?_ _ | with_reducible refine Fresh.trans ?_ (by assumption) | (simp; done) | (simp; omega)))⟩
theorem float_any : Calls Tryz.prog 55 #[.agg #[.int .i64 h.kind, .int .i64 h.size, .int .i64 h.len, .bool h.flag, .string h.name, .slice p n cap]] w fun e w' => e = .returned (.agg #[]) ∧ Fresh w w' := by
  go_enter Tryz.func55, Tryz.ntmps55
  go_wp2
  go_returns
  exact ⟨rfl, (by (repeat' first | with_reducible exact Fresh.refl _ | with_reducible assumption | with_reducible refine Fresh.alloc ?_ _ _ | with_reducible refine Fresh.drew ?_ | with_reducible refine Fresh.drewN ?_ _ | with_reducible refine Fresh.setCell ?_ ?_ _ | with_reducible refine Fresh.trans ?_ (by assumption) | (simp; done) | (simp; omega)))⟩
theorem number_any : Calls Tryz.prog 29 #[.agg #[.int .i64 h.kind, .int .i64 h.size, .int .i64 h.len, .bool h.flag, .string h.name, .slice p n cap]] w fun e w' => e = .returned (.agg #[.int .i64 h.size, .bool h.flag]) ∧ Fresh w w' := by
  go_enter Tryz.func29, Tryz.ntmps29
  go_wp2
  go_returns
  exact ⟨rfl, (by (repeat' first | with_reducible exact Fresh.refl _ | with_reducible assumption | with_reducible refine Fresh.alloc ?_ _ _ | with_reducible refine Fresh.drew ?_ | with_reducible refine Fresh.drewN ?_ _ | with_reducible refine Fresh.setCell ?_ ?_ _ | with_reducible refine Fresh.trans ?_ (by assumption) | (simp; done) | (simp; omega)))⟩
theorem record_any : Calls Tryz.prog 58 #[.agg #[.int .i64 h.kind, .int .i64 h.size, .int .i64 h.len, .bool h.flag, .string h.name, .slice p n cap]] w fun e w' => e = .returned (.agg #[.string h.name, .bool h.flag]) ∧ Fresh w w' := by
  go_enter Tryz.func58, Tryz.ntmps58
  go_wp2
  go_returns
  exact ⟨rfl, (by (repeat' first | with_reducible exact Fresh.refl _ | with_reducible assumption | with_reducible refine Fresh.alloc ?_ _ _ | with_reducible refine Fresh.drew ?_ | with_reducible refine Fresh.drewN ?_ _ | with_reducible refine Fresh.setCell ?_ ?_ _ | with_reducible refine Fresh.trans ?_ (by assumption) | (simp; done) | (simp; omega)))⟩
variable (w0 : World) (hf : Fresh w0 w) (hk : Kids ok w0 ks p n cap)
include hf hk
theorem pointer_any : Calls Tryz.prog 56 #[.agg #[.int .i64 h.kind, .int .i64 h.size, .int .i64 h.len, .bool h.flag, .string h.name, .slice p n cap]] w fun e w' => (∃ p' n' cap', e = .returned (tv ks.hd p' n' cap') ∧ Kids ok w0 ks.kids p' n' cap') ∧ Fresh w w' := by
  have HK := Lib.hid hk
  have HF := Lib.hid hf
  clear hk hf
  go_enter Tryz.func56, Tryz.ntmps56
  go_wp2_with fail
  go_at_call 83; refine (kid_any h ks p n cap w0 _ (HF.out.trans (by (repeat' first | with_reducible exact Fresh.refl _ | with_reducible assumption | with_reducible refine Fresh.alloc ?_ _ _ | with_reducible refine Fresh.drew ?_ | with_reducible refine Fresh.drewN ?_ _ | with_reducible refine Fresh.setCell ?_ ?_ _ | with_reducible refine Fresh.trans ?_ (by assumption) | (simp; done) | (simp; omega)))) HK.out).mono ?_; rintro e w1 ⟨⟨p', n', cap', rfl, hk'⟩, h1⟩
  have HK' := Lib.hid hk'
  clear hk'
  have R := (Blk.new (w.alloc (.cells #[.int .i64 h.kind, .int .i64 h.size, .int .i64 h.len, .bool h.flag, .string h.name, .slice p n cap] 25)) #[.int .i64 0, .int .i64 0, .int .i64 0, .bool false, .string ⟨#[]⟩, .slice none 0 0] 66).fresh h1
  simp only [World.size_alloc] at R
  have r0 := (R).1 0 _ rfl; have r1 := (R).1 1 _ rfl; have r2 := (R).1 2 _ rfl; have r3 := (R).1 3 _ rfl; have r4 := (R).1 4 _ rfl; have r5 := (R).1 5 _ rfl; have rf := (R).2.1; have rz := (R).2.2
  clear R
  go_wp2_with fail
  refine bodyPost_ret (v := ?_) ?_ rfl ?_; rotate_left 1; focus (simp [results, Tryz.results56, go_sem, *]; (try rfl); done)
  exact ⟨⟨_, _, _, rfl, HK'.out⟩, (by (repeat' first | with_reducible exact Fresh.refl _ | with_reducible assumption | with_reducible refine Fresh.alloc ?_ _ _ | with_reducible refine Fresh.drew ?_ | with_reducible refine Fresh.drewN ?_ _ | with_reducible refine Fresh.setCell ?_ ?_ _ | with_reducible refine Fresh.trans ?_ (by assumption) | (simp; done) | (simp; omega)))⟩
theorem array_any : Calls Tryz.prog 57 #[.agg #[.int .i64 h.kind, .int .i64 h.size, .int .i64 h.len, .bool h.flag, .string h.name, .slice p n cap]] w fun e w' => (∃ p' n' cap', e = .returned (.agg #[.int .i64 ks.hd.kind, .int .i64 ks.hd.size, .int .i64 ks.hd.len, .bool ks.hd.flag, .string ks.hd.name, .slice p' n' cap', .int .i64 h.len]) ∧ Kids ok w0 ks.kids p' n' cap') ∧ Fresh w w' := by
  have HK := Lib.hid hk
  have HF := Lib.hid hf
  clear hk hf
  go_enter Tryz.func57, Tryz.ntmps57
  go_wp2_with fail
  have HB := Lib.hid ((Blk.new w #[.int .i64 h.kind, .int .i64 h.size, .int .i64 h.len, .bool h.flag, .string h.name, .slice p n cap] 25).six.fresh ((Fresh.refl _).alloc #[.int .i64 0, .int .i64 0, .int .i64 0, .bool false, .string ⟨#[]⟩, .slice none 0 0, .int .i64 0] 58))
  have HR := Blk.new (w.alloc (.cells #[.int .i64 h.kind, .int .i64 h.size, .int .i64 h.len, .bool h.flag, .string h.name, .slice p n cap] 25)) #[.int .i64 0, .int .i64 0, .int .i64 0, .bool false, .string ⟨#[]⟩, .slice none 0 0, .int .i64 0] 58
  simp only [World.size_alloc] at HR
  replace HR := Lib.hid HR
  have E0 := Lib.hid (show Fresh w ((w.alloc (.cells #[.int .i64 h.kind, .int .i64 h.size, .int .i64 h.len, .bool h.flag, .string h.name, .slice p n cap] 25)).alloc (.cells #[.int .i64 0, .int .i64 0, .int .i64 0, .bool false, .string ⟨#[]⟩, .slice none 0 0, .int .i64 0] 58)) from (by (repeat' first | with_reducible exact Fresh.refl _ | with_reducible assumption | with_reducible refine Fresh.alloc ?_ _ _ | with_reducible refine Fresh.drew ?_ | with_reducible refine Fresh.drewN ?_ _ | with_reducible refine Fresh.setCell ?_ ?_ _ | with_reducible refine Fresh.trans ?_ (by assumption) | (simp; done) | (simp; omega))))
  generalize hW : (w.alloc (.cells #[.int .i64 h.kind, .int .i64 h.size, .int .i64 h.len, .bool h.flag, .string h.name, .slice p n cap] 25)).alloc (.cells #[.int .i64 0, .int .i64 0, .int .i64 0, .bool false, .string ⟨#[]⟩, .slice none 0 0, .int .i64 0] 58) = W at *
  clear hW
  have E : Hid (Fresh W W.drew) := Lib.hid (Fresh.refl W).drew
  go_region_held3 (fun w' => w'.cell? ⟨w.heap.size, 0, none⟩ = some (.int .i64 h.kind) ∧ w'.cell? ⟨w.heap.size, 1, none⟩ = some (.int .i64 h.size) ∧ w'.cell? ⟨w.heap.size, 2, none⟩ = some (.int .i64 h.len) ∧ w'.cell? ⟨w.heap.size, 3, none⟩ = some (.bool h.flag) ∧ w'.cell? ⟨w.heap.size, 4, none⟩ = some (.string h.name) ∧ w'.cell? ⟨w.heap.size, 5, none⟩ = some (.slice p n cap)) (first | with_reducible exact ⟨(HB.out.fresh E.out).c0, (HB.out.fresh E.out).c1, (HB.out.fresh E.out).c2, (HB.out.fresh E.out).c3, (HB.out.fresh E.out).c4, (HB.out.fresh E.out).c5⟩ | (simp [go_sem]; with_reducible exact ⟨(HB.out.fresh E.out).c0, (HB.out.fresh E.out).c1, (HB.out.fresh E.out).c2, (HB.out.fresh E.out).c3, (HB.out.fresh E.out).c4, (HB.out.fresh E.out).c5⟩)) (first | (go_at_call 83; (with_reducible refine (kid_any h ks p n cap w0 _ (HF.out.trans (E0.out.trans E.out)) HK.out).mono ?_); rintro e w1 ⟨⟨p', n', cap', rfl, hk'⟩, h1⟩; have E := Lib.hid (E.out.trans h1); have HK' := Lib.hid hk'; clear hk' h1; have R := HR.out.fresh E.out; have r0 := (R).1 0 _ rfl; have r1 := (R).1 1 _ rfl; have r2 := (R).1 2 _ rfl; have r3 := (R).1 3 _ rfl; have r4 := (R).1 4 _ rfl; have r5 := (R).1 5 _ rfl; have r6 := (R).1 6 _ rfl; have rf := (R).2.1; have rz := (R).2.2; clear R))
  all_goals (try go_wp2_with fail)
  all_goals refine bodyPost_ret (v := ?_) ?_ rfl ?_; rotate_left 1; focus (simp [results, Tryz.results57, go_sem, *]; (try rfl); done)
  exact ⟨⟨_, _, _, rfl, HK'.out⟩, (by repeat' first | with_reducible refine Fresh.setCell ?_ ?_ _ | exact E0.out.trans E.out | (simp; done) | (simp; omega))⟩
theorem function_any : Calls Tryz.prog 59 #[.agg #[.int .i64 h.kind, .int .i64 h.size, .int .i64 h.len, .bool h.flag, .string h.name, .slice p n cap]] w fun e w' => (∃ p' n' cap' q m qc, e = .returned (.agg #[.int .i64 ks.hd.kind, .int .i64 ks.hd.size, .int .i64 ks.hd.len, .bool ks.hd.flag, .string ks.hd.name, .slice p' n' cap', .slice q m qc]) ∧ Kids ok w0 ks.kids p' n' cap' ∧ Kids ok w0 ks.rest q m qc) ∧ Fresh w w' := by
  have HK := Lib.hid hk
  have HF := Lib.hid hf
  clear hk hf
  go_enter Tryz.func59, Tryz.ntmps59
  go_wp2_with fail
  have HB := Lib.hid ((Blk.new w #[.int .i64 h.kind, .int .i64 h.size, .int .i64 h.len, .bool h.flag, .string h.name, .slice p n cap] 25).six.fresh ((Fresh.refl _).alloc #[.int .i64 0, .int .i64 0, .int .i64 0, .bool false, .string ⟨#[]⟩, .slice none 0 0, .slice none 0 0] 94))
  have HR0 := Blk.new (w.alloc (.cells #[.int .i64 h.kind, .int .i64 h.size, .int .i64 h.len, .bool h.flag, .string h.name, .slice p n cap] 25)) #[.int .i64 0, .int .i64 0, .int .i64 0, .bool false, .string ⟨#[]⟩, .slice none 0 0, .slice none 0 0] 94
  simp only [World.size_alloc] at HR0
  have HR := Lib.hid HR0
  clear HR0
  have E0 := Lib.hid (show Fresh w ((w.alloc (.cells #[.int .i64 h.kind, .int .i64 h.size, .int .i64 h.len, .bool h.flag, .string h.name, .slice p n cap] 25)).alloc (.cells #[.int .i64 0, .int .i64 0, .int .i64 0, .bool false, .string ⟨#[]⟩, .slice none 0 0, .slice none 0 0] 94)) from (by (repeat' first | with_reducible exact Fresh.refl _ | with_reducible assumption | with_reducible refine Fresh.alloc ?_ _ _ | with_reducible refine Fresh.drew ?_ | with_reducible refine Fresh.drewN ?_ _ | with_reducible refine Fresh.setCell ?_ ?_ _ | with_reducible refine Fresh.trans ?_ (by assumption) | (simp; done) | (simp; omega))))
  generalize hW : (w.alloc (.cells #[.int .i64 h.kind, .int .i64 h.size, .int .i64 h.len, .bool h.flag, .string h.name, .slice p n cap] 25)).alloc (.cells #[.int .i64 0, .int .i64 0, .int .i64 0, .bool false, .string ⟨#[]⟩, .slice none 0 0, .slice none 0 0] 94) = W at *
  clear hW
  have E : Hid (Fresh W W.drew) := Lib.hid (Fresh.refl W).drew
  go_region_held3 (fun w' => w'.cell? ⟨w.heap.size, 0, none⟩ = some (.int .i64 h.kind) ∧ w'.cell? ⟨w.heap.size, 1, none⟩ = some (.int .i64 h.size) ∧ w'.cell? ⟨w.heap.size, 2, none⟩ = some (.int .i64 h.len) ∧ w'.cell? ⟨w.heap.size, 3, none⟩ = some (.bool h.flag) ∧ w'.cell? ⟨w.heap.size, 4, none⟩ = some (.string h.name) ∧ w'.cell? ⟨w.heap.size, 5, none⟩ = some (.slice p n cap)) (first | with_reducible exact ⟨(HB.out.fresh E.out).c0, (HB.out.fresh E.out).c1, (HB.out.fresh E.out).c2, (HB.out.fresh E.out).c3, (HB.out.fresh E.out).c4, (HB.out.fresh E.out).c5⟩ | (simp [go_sem]; with_reducible exact ⟨(HB.out.fresh E.out).c0, (HB.out.fresh E.out).c1, (HB.out.fresh E.out).c2, (HB.out.fresh E.out).c3, (HB.out.fresh E.out).c4, (HB.out.fresh E.out).c5⟩)) (first | (go_at_call 83; (with_reducible refine (kid_any h ks p n cap w0 _ (HF.out.trans (E0.out.trans E.out)) HK.out).mono ?_); rintro e w1 ⟨⟨p', n', cap', rfl, hk'⟩, h1⟩; have E := Lib.hid (E.out.trans h1); have HK' := Lib.hid hk'; clear hk' h1; have R := HR.out.fresh E.out; have r0 := (R).1 0 _ rfl; have r1 := (R).1 1 _ rfl; have r2 := (R).1 2 _ rfl; have r3 := (R).1 3 _ rfl; have r4 := (R).1 4 _ rfl; have r5 := (R).1 5 _ rfl; have r6 := (R).1 6 _ rfl; have rf := (R).2.1; have rz := (R).2.2; clear R) | (go_at_call 84; (with_reducible refine (rest_any h ks p n cap w0 _ HK.out).mono ?_); rintro e w1 ⟨⟨q, m, qc, rfl, hk'⟩, h1⟩; have E := Lib.hid (E.out.trans h1); have HQ := Lib.hid hk'; clear hk' h1; have R := HR.out.fresh E.out; have r0 := (R).1 0 _ rfl; have r1 := (R).1 1 _ rfl; have r2 := (R).1 2 _ rfl; have r3 := (R).1 3 _ rfl; have r4 := (R).1 4 _ rfl; have r5 := (R).1 5 _ rfl; have r6 := (R).1 6 _ rfl; have rf := (R).2.1; have rz := (R).2.2; clear R))
  all_goals (try go_wp2_with fail)
  all_goals refine bodyPost_ret (v := ?_) ?_ rfl ?_; rotate_left 1; focus (simp [results, Tryz.results59, go_sem, *]; (try rfl); done)
  all_goals exact ⟨⟨_, _, _, _, _, _, rfl, HK'.out, HQ.out⟩, (by repeat' first | with_reducible refine Fresh.setCell ?_ ?_ _ | exact E0.out.trans E.out | (simp; done) | (simp; omega))⟩
end
end Go.Proofs.YteiomcbphbbpkaaGreatDoor
