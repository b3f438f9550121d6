/- What the fixed calls show as text. -/
import Derived.Test.YtjbflmpnmobngaaDoorDg
import Derived.Test.YtjbflmpnmobngaaDoorDe
import Derived.Test.YtjbflmpnmobngaaDoorSh
namespace Go.Proofs.YtjbflmpnmobngaaDoor
set_option linter.unusedSimpArgs false
set_option linter.unusedVariables false
open Go.RowKit

theorem dig1 : Lib.decDigits 1 = [49] := by decide +kernel
theorem dig0 : Lib.decDigits 0 = [48] := by decide +kernel
theorem itoa_1 (w : World) : Calls Tryd.prog 46 #[.int .i64 1] w fun e w' => e = .returned (.string ⟨#[49]⟩) ∧ w = w' := by
  refine (Tryd.strconv_Itoa_small 1 (by decide) w).mono ?_
  rintro e w' ⟨rfl, rfl⟩
  exact ⟨by rw [dig1], rfl⟩
theorem itoa_0 (w : World) : Calls Tryd.prog 46 #[.int .i64 0] w fun e w' => e = .returned (.string ⟨#[48]⟩) ∧ w = w' := by
  refine (Tryd.strconv_Itoa_small 0 (by decide) w).mono ?_
  rintro e w' ⟨rfl, rfl⟩
  exact ⟨by rw [dig0], rfl⟩
theorem valueText_1 (w : World) : Calls Tryd.prog 44 #[.agg #[.int .i64 1, .int .u64 1, .int .i64 0]] w fun e w' => e = .returned (.string ⟨#[49]⟩) ∧ Fresh w w' := by
  go_enter Tryd.func44, Tryd.ntmps44
  go_wp2_with (go_at_call 46; refine (itoa_1 _).mono ?_; rintro e w' ⟨rfl, rfl⟩)
  go_returns
  exact ⟨rfl, (Fresh.refl _).alloc _ _⟩
theorem endText_1 (p : Option Addr) (n cap : Nat) (steps : Int) (w : World) :
    Calls Tryd.prog 39 #[.agg #[.slice p n cap, .int .i64 1, .int .i32 0, .int .i64 steps]] w fun e w' => e = .returned (.string ⟨#[101, 120, 105, 116, 101, 100, 32, 48]⟩) ∧ Fresh w w' := by
  go_enter Tryd.func39, Tryd.ntmps39
  go_wp2_with (go_at_call 46; refine (itoa_0 _).mono ?_; rintro e w' ⟨rfl, rfl⟩)
  go_returns
  exact ⟨rfl, (Fresh.refl _).alloc _ _⟩
def put : ByteArray := ⟨#[112, 117, 116]⟩
def one : ByteArray := ⟨#[49]⟩
/-- What is held behind an event's beginning, its argument, its end. -/
def h0 : List Value := Lib.strCells put ++ [.int .u8 40]
def h1 : List Value := h0 ++ Lib.strCells one
def hB (k : Nat) : List Value := if k = 0 then h0 else h1
def h2 : List Value := ((h1 ++ [.int .u8 41]) ++ Lib.strCells ⟨#[32, 61, 32]⟩) ++ Lib.strCells one ++ [.int .u8 10]
theorem Bld.later {R b : Nat} {bs : List Value} {w w' : World} (h : Bld R b bs w) (hf : Fresh w w') : Bld R b bs w' := by
  obtain ⟨p, v, hp, hb, hown, hne⟩ := h
  have hlt : b < w.heap.size := by
    rcases Nat.lt_or_ge b w.heap.size with q | q
    · exact q
    · simp [Array.getElem?_eq_none q] at hb
  exact ⟨p, v, hp, (hf.below.block b hlt).trans hb, hown.kept (row := none) ⟨hf.below.os, hf.below.tape, hf.below.output, hf.below.size, fun k hk _ => hf.below.block k hk⟩ (by by_cases q : v.ownBlock = none; exact Or.inl q; exact Or.inr q), hne⟩
/-- The event's box, its argument. -/
structure Ctx (H A off cap : Nat) (w : World) : Prop where
  e0 : w.cell? ⟨H, 0, none⟩ = some (.string put)
  e1 : w.cell? ⟨H, 1, none⟩ = some (.slice (some ⟨A, off, none⟩) 1 cap)
  e2 : w.cell? ⟨H, 2, none⟩ = some (.int .i64 1)
  e3 : w.cell? ⟨H, 3, none⟩ = some (.int .u64 1)
  e4 : w.cell? ⟨H, 4, none⟩ = some (.int .i64 0)
  a0 : w.cell? ⟨A, off, none⟩ = some (.int .i64 1)
  a1 : w.cell? ⟨A, off + 1, none⟩ = some (.int .u64 1)
  a2 : w.cell? ⟨A, off + 2, none⟩ = some (.int .i64 0)
  z : H + 1 ≤ w.heap.size
theorem Ctx.kp {H A off cap b : Nat} {w w' : World} (h : Ctx H A off cap w) (k : Kp (H + 1) b w w') (hb : b < H) (hA : A < H) (hAb : A ≠ b) : Ctx H A off cap w' :=
  ⟨k.cell (by omega) (by omega) h.e0, k.cell (by omega) (by omega) h.e1, k.cell (by omega) (by omega) h.e2, k.cell (by omega) (by omega) h.e3, k.cell (by omega) (by omega) h.e4,
    k.cell (by omega) hAb h.a0, k.cell (by omega) hAb h.a1, k.cell (by omega) hAb h.a2, Nat.le_trans h.z k.size⟩
theorem Ctx.fresh {H A off cap : Nat} {w w' : World} (h : Ctx H A off cap w) (k : Fresh w w') : Ctx H A off cap w' :=
  ⟨k.at' h.e0, k.at' h.e1, k.at' h.e2, k.at' h.e3, k.at' h.e4, k.at' h.a0, k.at' h.a1, k.at' h.a2, Nat.le_trans h.z k.size⟩
/-- All that is carried along. -/
structure Sta (W : World) (b H A off cap : Nat) (bs : List Value) (w : World) : Prop where
  c : Ctx H A off cap w
  bl : Bld (H + 1) b bs w
  k : Kp H b W w
theorem Sta.fresh {W : World} {b H A off cap : Nat} {bs : List Value} {w w' : World} (h : Sta W b H A off cap bs w) (k : Fresh w w') : Sta W b H A off cap bs w' :=
  ⟨h.c.fresh k, h.bl.later k, h.k.trans (Kp.fresh k (by have := h.c.z; omega))⟩
theorem Sta.wrote {W : World} {b H A off cap : Nat} {bs bs' : List Value} {w w' : World} (h : Sta W b H A off cap bs w) (hb : Bld (H + 1) b bs' w') (k : Kp (H + 1) b w w') (hbH : b < H) (hA : A < H) (hAb : A ≠ b) : Sta W b H A off cap bs' w' :=
  ⟨h.c.kp k hbH hA hAb, hb, h.k.trans ⟨k.os, k.tape, k.output, k.size, fun i hi hb => k.block i (by omega) hb⟩⟩
set_option maxRecDepth 100000 in
set_option maxHeartbeats 4000000 in
theorem event_1 (b A off cap : Nat) (w : World) (hb : Bld (w.heap.size + 1) b [] w) (hbz : b < w.heap.size) (hA : A < w.heap.size) (hAb : A ≠ b)
    (c0 : w.cell? ⟨A, off, none⟩ = some (.int .i64 1)) (c1 : w.cell? ⟨A, off + 1, none⟩ = some (.int .u64 1)) (c2 : w.cell? ⟨A, off + 2, none⟩ = some (.int .i64 0)) :
    Calls Tryd.prog 37 #[.pointer (some ⟨b, 0, none⟩), .agg #[.string put, .slice (some ⟨A, off, none⟩) 1 cap, .int .i64 1, .int .u64 1, .int .i64 0]] w
      fun e w' => e = .returned (.tuple #[]) ∧ Sta w b w.heap.size A off cap h2 w' := by
  have hf : Fresh w (w.alloc (.cells #[.string put, .slice (some ⟨A, off, none⟩) 1 cap, .int .i64 1, .int .u64 1, .int .i64 0] 32)) := (Fresh.refl w).alloc _ _
  have S0 : Sta w b w.heap.size A off cap [] (w.alloc (.cells #[.string put, .slice (some ⟨A, off, none⟩) 1 cap, .int .i64 1, .int .u64 1, .int .i64 0] 32)) :=
    ⟨⟨by simp [go_sem], by simp [go_sem], by simp [go_sem], by simp [go_sem], by simp [go_sem], hf.at' c0, hf.at' c1, hf.at' c2, by simp⟩, hb.later hf, Kp.fresh hf (Nat.le_refl _)⟩
  have S := Lib.hid S0
  have HH := Lib.hid (And.intro hbz (And.intro hA hAb))
  clear S0 hf hb hbz hA hAb c0 c1 c2
  go_enter Tryd.func37, Tryd.ntmps37
  go_wp2_with fail
  go_at_call 38; refine (str_any _ b [] put _ S.out.bl (by decide) S.out.c.z).mono ?_; rintro e w1 ⟨rfl, q, k⟩; have S1 := Lib.hid (S.out.wrote q k HH.out.1 HH.out.2.1 HH.out.2.2); clear S q k
  go_wp2_with fail
  go_at_call 40; refine (byte_any _ b _ 40 _ S1.out.bl (by decide) S1.out.c.z).mono ?_; rintro e w2 ⟨rfl, q, k⟩; have S2 := Lib.hid (S1.out.wrote q k HH.out.1 HH.out.2.1 HH.out.2.2); clear S1 q k
  have e1 := S2.out.c.e1
  go_wp2_with fail
  clear e1
  go_loopw [15] (fun i wr => ∃ k : Nat, k ≤ 1 ∧ i = .int .i64 k ∧ Hid (Sta w b w.heap.size A off cap (hB k) wr)) (fun i _ => 1 - (intOf i).toNat)
  case atStart => exact ⟨0, by omega, rfl, S2⟩
  case round =>
    obtain ⟨k, hk, rfl, T⟩ := hrel
    clear S2
    by_cases hlt : k < 1
    · obtain rfl : k = 0 := by omega
      have a0 := T.out.c.a0
      have a1 := T.out.c.a1
      have a2 := T.out.c.a2
      go_wp2_with fail
      clear a0 a1 a2
      go_at_call 44; refine (valueText_1 _).mono ?_; rintro e w3 ⟨rfl, q3⟩; have S3 := Lib.hid ((T.out.fresh ((Fresh.refl _).alloc _ _)).fresh q3); clear T q3
      go_wp2_with fail
      go_at_call 38; refine (str_any _ b _ one _ S3.out.bl (by decide) S3.out.c.z).mono ?_; rintro e w4 ⟨rfl, q, k⟩; have S4 := Lib.hid (S3.out.wrote q k HH.out.1 HH.out.2.1 HH.out.2.2); clear S3 q k
      go_wp2_with fail
      go_roundw
      case rel => exact ⟨1, by omega, by go_num, S4⟩
      case measure => simp [intOf]
    · obtain rfl : k = 1 := by omega
      go_wp2_with fail
      go_at_call 40; refine (byte_any _ b _ 41 _ T.out.bl (by decide) T.out.c.z).mono ?_; rintro e w3 ⟨rfl, q, k⟩; have S3 := Lib.hid (T.out.wrote q k HH.out.1 HH.out.2.1 HH.out.2.2); clear T q k
      have e2 := S3.out.c.e2
      go_wp2_with fail
      clear e2
      go_at_call 38; refine (str_any _ b _ ⟨#[32, 61, 32]⟩ _ S3.out.bl (by decide) S3.out.c.z).mono ?_; rintro e w4 ⟨rfl, q, k⟩; have S4 := Lib.hid (S3.out.wrote q k HH.out.1 HH.out.2.1 HH.out.2.2); clear S3 q k
      have e2 := S4.out.c.e2
      have e3 := S4.out.c.e3
      have e4 := S4.out.c.e4
      go_wp2_with fail
      clear e2 e3 e4
      go_at_call 44; refine (valueText_1 _).mono ?_; rintro e w5 ⟨rfl, q5⟩; have S5 := Lib.hid (S4.out.fresh q5); clear S4 q5
      go_wp2_with fail
      go_at_call 38; refine (str_any _ b _ one _ S5.out.bl (by decide) S5.out.c.z).mono ?_; rintro e w6 ⟨rfl, q, k⟩; have S6 := Lib.hid (S5.out.wrote q k HH.out.1 HH.out.2.1 HH.out.2.2); clear S5 q k
      go_wp2_with fail
      go_at_call 40; refine (byte_any _ b _ 10 _ S6.out.bl (by decide) S6.out.c.z).mono ?_; rintro e w7 ⟨rfl, q, k⟩; have S7 := Lib.hid (S6.out.wrote q k HH.out.1 HH.out.2.1 HH.out.2.2); clear S6 q k
      go_wp2
      go_end0
      exact ⟨rfl, S7.out⟩
end Go.Proofs.YtjbflmpnmobngaaDoor
