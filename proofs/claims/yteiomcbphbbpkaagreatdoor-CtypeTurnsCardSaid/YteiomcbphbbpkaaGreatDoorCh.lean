/- Types made of numbers: arrays, records, functions. -/
import Derived.Test.YteiomcbphbbpkaaGreatDoorCg
namespace Go.Proofs.YteiomcbphbbpkaaGreatDoor
set_option linter.unusedSimpArgs false
set_option linter.unusedVariables false
open Go.RowKit

set_option maxHeartbeats 4000000 in
theorem made_small (w0 : World) (zs : Nat → Int) (n d : Nat) (ih : TypeSpec w0 zs n d) (dep : Int) (i : Nat) (k l : Int) (p : Option Addr) (m c : Nat) (w : World) (hd : dep + d = 60) (h0 : 0 ≤ dep) (h1 : 11 ≤ k) (h2 : k ≤ 13) (hi : i ≤ n) (hc : CodeAt w0 zs n i p m c) (hf : Fresh w0 w) :
    Calls Tryz.prog 48 #[.int .i64 k, .int .i64 l, .slice p m c, .int .i64 dep] w fun e w' =>
      (∃ p' n' cap' q m' c', e = .returned (.tuple #[.agg #[.int .i64 (mkM (mkT zs n d) k l i).h.kind, .int .i64 (mkM (mkT zs n d) k l i).h.size, .int .i64 (mkM (mkT zs n d) k l i).h.len, .bool (mkM (mkT zs n d) k l i).h.flag, .string (mkM (mkT zs n d) k l i).h.name, .slice p' n' cap'], .slice q m' c']) ∧
        Kids (fun b => w.heap.size ≤ b) w' (mkM (mkT zs n d) k l i).ks p' n' cap' ∧ CodeAt w0 zs n (mkM (mkT zs n d) k l i).j q m' c') ∧ Fresh w w' := by
  have HD := Lib.hid hd
  have HF := Lib.hid hf
  have IH := Lib.hid ih
  have HC := Lib.hid hc
  have hdep : dep ≤ 60 := by omega
  clear hd hf ih hc
  have HB := Lib.hid (Blk.new w #[.int .i64 0, .int .i64 0, .int .i64 0, .bool false, .string ⟨#[]⟩, .slice none 0 0] 25).six
  obtain rfl | rfl | rfl : k = 11 ∨ k = 12 ∨ k = 13 := by omega
  · clear h1 h2
    go_enter Tryz.func48, Tryz.ntmps48
    go_wp2_with fail
    go_at_call 26; refine (IH.out (dep + 1) i _ m c _ (by have := HD.out; omega) (by omega) hi HC.out (HF.out.trans (by (repeat' first | with_reducible exact Fresh.refl _ | with_reducible assumption | with_reducible refine Fresh.alloc ?_ _ _ | with_reducible refine Fresh.drew ?_ | with_reducible refine Fresh.drewN ?_ _ | with_reducible refine Fresh.setCell ?_ ?_ _ | with_reducible refine Fresh.trans ?_ (by assumption) | (simp; done) | (simp; omega))))).mono ?_; rintro e w1 ⟨⟨p1, n1, cap1, q1, m1, c1, rfl, hk1, hc1⟩, h1⟩
    have HK1 := Lib.hid (hk1.mono (ok' := fun b => w.heap.size + 1 ≤ b) (fun b _ hb => by simpa using hb))
    have HC1 := Lib.hid hc1
    have hz1 : w.heap.size + 1 ≤ w1.heap.size := (by simpa using h1.size)
    clear hk1 hc1
    go_wp2_with fail
    go_at_call 16; refine (arrT_any (ok := fun b => w.heap.size + 1 ≤ b) (mkT zs n d i).h (mkT zs n d i).ks p1 n1 cap1 l _ (fun b hb => by simp at hb; omega) (HK1.out.later (by (repeat' first | with_reducible exact Fresh.refl _ | with_reducible assumption | with_reducible refine Fresh.alloc ?_ _ _ | with_reducible refine Fresh.drew ?_ | with_reducible refine Fresh.drewN ?_ _ | with_reducible refine Fresh.setCell ?_ ?_ _ | with_reducible refine Fresh.trans ?_ (by assumption) | (simp; done) | (simp; omega))))).mono ?_; rintro e w2 ⟨⟨p2, rfl, hk2⟩, h2⟩
    obtain ⟨r0, r1, r2, r3, r4, r5, rf⟩ := (HB.out.fresh h1).fresh (Fresh.trans (Fresh.alloc (Fresh.refl _) _ _) h2)
    have rz := cell_lt r0
    simp only at rz
    have HK2 := Lib.hid hk2
    clear hk2
    go_wp2_with fail
    refine bodyPost_ret (v := ?_) ?_ rfl ?_; rotate_left 1; focus (simp [results, Tryz.results48, go_sem, *]; (try rfl); done)
    exact ⟨⟨_, _, _, _, _, _, rfl, ((((((HK2.out.set (by simp) 0 _).set (by simp) 1 _).set (by simp) 2 _).set (by simp) 3 _).set (by simp) 4 _).set (by simp) 5 _).mono (fun b _ hb => by omega), HC1.out⟩, (by (repeat' first | with_reducible exact Fresh.refl _ | with_reducible assumption | with_reducible refine Fresh.alloc ?_ _ _ | with_reducible refine Fresh.drew ?_ | with_reducible refine Fresh.drewN ?_ _ | with_reducible refine Fresh.setCell ?_ ?_ _ | with_reducible refine Fresh.trans ?_ (by assumption) | (simp; done) | (simp; omega)))⟩
  all_goals
    clear h1 h2
    go_enter Tryz.func48, Tryz.ntmps48
    go_wp2_with fail
    go_at_call 71; refine (name_any l _).mono ?_; rintro e w1 ⟨rfl, h1⟩
    go_wp2_with fail
    go_at_call 15; refine (recT_any (nameOf l) _ _).mono ?_; rintro e w2 ⟨rfl, h2⟩
    obtain ⟨r0, r1, r2, r3, r4, r5, rf⟩ := (HB.out.fresh h1).fresh h2
    have rz := cell_lt r0
    simp only at rz
    go_wp2_with fail
    refine bodyPost_ret (v := ?_) ?_ rfl ?_; rotate_left 1; focus (simp [results, Tryz.results48, go_sem, *]; (try rfl); done)
    exact ⟨⟨_, _, _, _, _, _, rfl, Kids.none _, HC.out⟩, (by (repeat' first | with_reducible exact Fresh.refl _ | with_reducible assumption | with_reducible refine Fresh.alloc ?_ _ _ | with_reducible refine Fresh.drew ?_ | with_reducible refine Fresh.drewN ?_ _ | with_reducible refine Fresh.setCell ?_ ?_ _ | with_reducible refine Fresh.trans ?_ (by assumption) | (simp; done) | (simp; omega)))⟩
end Go.Proofs.YteiomcbphbbpkaaGreatDoor
