/- The type that numbers tell. -/
import Derived.Test.YteiomcbphbbpkaaGreatDoorCi
namespace Go.Proofs.YteiomcbphbbpkaaGreatDoor
set_option linter.unusedSimpArgs false
set_option linter.unusedVariables false
open Go.RowKit
set_option maxHeartbeats 2000000 in
theorem one_d (d : Nat) (hd : d = 61) (zs : Nat → Int) (n : Nat) (p : Option Addr) (cap : Nat) (w0 w : World) (hf : Fresh w0 w) (hc : CodeAt w0 zs n 0 p n cap) :
    Calls Tryz.prog 5 #[.slice p n cap] w fun e w' =>
      (∃ p' n' cap', e = .returned (.agg #[.int .i64 (mkT zs n d 0).h.kind, .int .i64 (mkT zs n d 0).h.size, .int .i64 (mkT zs n d 0).h.len, .bool (mkT zs n d 0).h.flag, .string (mkT zs n d 0).h.name, .slice p' n' cap']) ∧ Kids (fun b => w.heap.size ≤ b) w' (mkT zs n d 0).ks p' n' cap') ∧ Fresh w w' := by
  have HC := Lib.hid hc
  have HF := Lib.hid hf
  have HB := Lib.hid (Blk.new w #[.int .i64 0, .int .i64 0, .int .i64 0, .bool false, .string ⟨#[]⟩, .slice none 0 0] 25).six
  have HDD := Lib.hid hd
  clear hc hf hd
  go_enter Tryz.func5, Tryz.ntmps5
  go_wp2_with fail
  go_at_call 26; refine (type_spec w0 zs n d 0 0 p n cap _ (by rw [HDD.out]; rfl) (by omega) (by omega) HC.out (HF.out.trans (by (repeat' first | with_reducible exact Fresh.refl _ | with_reducible assumption | with_reducible refine Fresh.alloc ?_ _ _ | with_reducible refine Fresh.drew ?_ | with_reducible refine Fresh.drewN ?_ _ | with_reducible refine Fresh.setCell ?_ ?_ _ | with_reducible refine Fresh.trans ?_ (by assumption) | (simp; done) | (simp; omega))))).mono ?_; rintro e w1 ⟨⟨p1, n1, cap1, q1, m1, c1, rfl, hk1, hc1⟩, h1⟩
  have hk := hk1.mono (ok' := fun b => w.heap.size + 1 ≤ b) (fun b _ hb => by simpa using hb)
  have hz := h1.size
  simp at hz
  have hr := HB.out.fresh h1
  clear hk1 hc1
  generalize hS : mkT zs n d 0 = S at *
  have HS := Lib.hid hS
  clear hS
  go_upto_region 2 with fail
  have FW : Fresh w1 (w1.alloc (.cells #[.int .i64 S.h.kind, .int .i64 S.h.size, .int .i64 S.h.len, .bool S.h.flag, .string S.h.name, .slice p1 n1 cap1] 25)) := (Fresh.refl _).alloc _ _
  obtain ⟨b0, b1, b2, b3, b4, b5, bf⟩ := (Blk.new w1 #[.int .i64 S.h.kind, .int .i64 S.h.size, .int .i64 S.h.len, .bool S.h.flag, .string S.h.name, .slice p1 n1 cap1] 25).six
  obtain ⟨r0, r1, r2, r3, r4, r5, rf⟩ := hr.fresh FW
  have HK2 := Lib.hid (hk.later FW)
  have HFW : Hid (Fresh w (w1.alloc (.cells #[.int .i64 S.h.kind, .int .i64 S.h.size, .int .i64 S.h.len, .bool S.h.flag, .string S.h.name, .slice p1 n1 cap1] 25))) := Lib.hid ((show Fresh w w1 from (by (repeat' first | with_reducible exact Fresh.refl _ | with_reducible assumption | with_reducible refine Fresh.alloc ?_ _ _ | with_reducible refine Fresh.drew ?_ | with_reducible refine Fresh.drewN ?_ _ | with_reducible refine Fresh.setCell ?_ ?_ _ | with_reducible refine Fresh.trans ?_ (by assumption) | (simp; done) | (simp; omega)))).trans FW)
  clear FW hr hk h1 HB
  generalize w1.alloc (.cells #[.int .i64 S.h.kind, .int .i64 S.h.size, .int .i64 S.h.len, .bool S.h.flag, .string S.h.name, .slice p1 n1 cap1] 25) = W2 at *
  have nb : w1.heap.size ≠ w.heap.size := by omega
  have nb' : w.heap.size ≠ w1.heap.size := by omega
  go_wp2_with fail
  refine bodyPost_ret (v := ?_) ?_ rfl ?_; rotate_left 1; focus (simp [results, Tryz.results5, go_sem, *]; (try rfl); done)
  rw [HS.out]
  exact ⟨⟨_, _, _, rfl, ((((((HK2.out.set (by simp) 0 _).set (by simp) 1 _).set (by simp) 2 _).set (by simp) 3 _).set (by simp) 4 _).set (by simp) 5 _).mono (fun b _ hb => by omega)⟩, (by repeat' first | with_reducible refine Fresh.setCell ?_ ?_ _ | exact HFW.out | (simp; done) | (simp; omega))⟩
/-- The type that numbers tell. -/
def one (zs : Nat → Int) (n : Nat) : Mk := mkT zs n 61 0
theorem one_any (zs : Nat → Int) (n : Nat) (p : Option Addr) (cap : Nat) (w0 w : World) (hf : Fresh w0 w) (hc : CodeAt w0 zs n 0 p n cap) :
    Calls Tryz.prog 5 #[.slice p n cap] w fun e w' =>
      (∃ p' n' cap', e = .returned (.agg #[.int .i64 (one zs n).h.kind, .int .i64 (one zs n).h.size, .int .i64 (one zs n).h.len, .bool (one zs n).h.flag, .string (one zs n).h.name, .slice p' n' cap']) ∧ Kids (fun b => w.heap.size ≤ b) w' (one zs n).ks p' n' cap') ∧ Fresh w w' :=
  one_d 61 rfl zs n p cap w0 w hf hc
end Go.Proofs.YteiomcbphbbpkaaGreatDoor
