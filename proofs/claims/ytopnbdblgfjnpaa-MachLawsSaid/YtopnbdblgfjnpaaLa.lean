/-
  Sums, products and bits are commutative, a difference undoes a sum, a quotient and what is left make the number again, and a greater kind takes a number and gives it back. No condition.
-/
import Derived.Test.YtopnbdblgfjnpaaSm
import Derived.Deep.DeepCutAuto
import Derived.ProofKit
import Derived.OpenShut
import Derived.Lib.SmallJoins
namespace Go.Proofs.Ytopnbdblgfjnpaa.machLaws
set_option linter.unusedSimpArgs false
set_option linter.unusedVariables false
open Go.ChangeShapes Go.WideShapes Go.ChangeAt Go.RowKit Go.Joins

structure TabI (L : List Int) (B : Nat) (w : World) : Prop where
  size : B < w.heap.size
  c : ∀ j, j < L.length → w.cell? ⟨B, j, none⟩ = some (.int .i64 (L.getD j 0))
theorem TabI.later {L : List Int} {B : Nat} {W w1 : World} (h : TabI L B W) (hf : Fresh W w1) : TabI L B w1 := ⟨hf.z h.size, fun j hj => hf.cellOf h.size (h.c j hj)⟩
theorem TabI.new2 (w : World) (x y : Int) (t : TypeId) : TabI [x, y] w.heap.size (w.alloc (.cells #[.int .i64 x, .int .i64 y] t)) := by
  refine ⟨by simp, fun j hj => ?_⟩
  match j, hj with
  | 0, _ | 1, _ => simp [go_sem]
  | j + 2, h => exact absurd h (by simp)
theorem TabI.new7 (w : World) (t : TypeId) : TabI opsL w.heap.size (w.alloc (.cells #[.int .i64 3, .int .i64 5, .int .i64 10, .int .i64 11, .int .i64 12, .int .i64 16, .int .i64 17] t)) := by
  refine ⟨by simp, fun j hj => ?_⟩
  match j, hj with
  | 0, _ | 1, _ | 2, _ | 3, _ | 4, _ | 5, _ | 6, _ => simp [go_sem, opsL]
  | j + 7, h => exact absurd h (by simp [opsL])
theorem TabI.new7' (w : World) (B : Nat) (h : B = w.heap.size) : TabI opsL B (w.alloc (.cells #[.int .i64 3, .int .i64 5, .int .i64 10, .int .i64 11, .int .i64 12, .int .i64 16, .int .i64 17] 3)) := by
  subst h; exact TabI.new7 w 3
theorem TabI.new2' (w : World) (B : Nat) (x y : Int) (h : B = w.heap.size) : TabI [x, y] B (w.alloc (.cells #[.int .i64 x, .int .i64 y] 3)) := by
  subst h; exact TabI.new2 w x y 3
theorem ops_mem (k : Nat) (h : k < 7) : opsL.getD k 0 ∈ opsL ∧ 0 ≤ opsL.getD k 0 ∧ opsL.getD k 0 ≤ 17 := by
  match k, h with
  | 0, _ | 1, _ | 2, _ | 3, _ | 4, _ | 5, _ | 6, _ => simp [opsL]
  | j + 7, h => omega
theorem int_x (n : Int) (w : World) :
    Calls Try.prog 28 #[.int .i32 n] w fun e w' => e = .returned (.agg #[.int .i64 1, .int .u64 (n % 4294967296), .int .i64 0]) ∧ w.alloc (.cells #[.int .i64 1, .int .u64 (n % 4294967296), .int .i64 0] 24) = w' := by
  go_enter Try.func28, Try.ntmps28
  go_wp2
  go_returns
  exact ⟨rfl, rfl⟩
theorem long_x (n : Int) (w : World) :
    Calls Try.prog 26 #[.int .i64 n] w fun e w' => e = .returned (.agg #[.int .i64 2, .int .u64 (IntKind.u64.wrap n), .int .i64 0]) ∧ w.alloc (.cells #[.int .i64 2, .int .u64 (IntKind.u64.wrap n), .int .i64 0] 24) = w' := by
  go_enter Try.func26, Try.ntmps26
  go_wp2
  go_returns
  exact ⟨rfl, rfl⟩
theorem u64_r (n : Int) : 0 ≤ IntKind.u64.wrap n ∧ IntKind.u64.wrap n < 18446744073709551616 := by
  simp [IntKind.wrap, IntKind.bits, IntKind.signed]; omega
def At (s : Value) (w : World) (k n : Int) : Prop := ∃ p : Nat, s = .pointer (some ⟨p, 0, none⟩) ∧ Own w p k n 0
theorem At.mk {w : World} {p : Nat} {k n : Int} (h : Own w p k n 0) : At (.pointer (some ⟨p, 0, none⟩)) w k n := ⟨p, rfl, h⟩
theorem own_cells {w : World} {B : Nat} {k n b : Int} (h : Own w B k n b) : w.cell? ⟨B, 0, none⟩ = some (.int .i64 k) ∧ w.cell? ⟨B, 1, none⟩ = some (.int .u64 n) ∧ w.cell? ⟨B, 2, none⟩ = some (.int .i64 b) := ⟨h.c0, h.c1, h.c2⟩
abbrev Gives (o k a b r v : Int) (c : Bool) : Prop := ∀ w : World, Calls Try.prog 11 #[.int .i64 o, .agg #[.int .i64 k, .int .u64 a, .int .i64 0], .agg #[.int .i64 k, .int .u64 b, .int .i64 0]] w fun e w' => e = .returned (.tuple #[.agg #[.int .i64 r, .int .u64 v, .int .i64 0], .bool c]) ∧ Fresh w w'
theorem gives {o k a b r v : Int} {c : Bool} (ha : 0 ≤ a) (hb : 0 ≤ b) (h : eval2L o k a 0 k b 0 = ((r, v, 0), c)) : Hid (Gives o k a b r v c) := Lib.hid fun w => eval2_lit o k a 0 k b 0 r v 0 c ha hb h w

set_option maxRecDepth 100000 in
set_option maxHeartbeats 8000000 in
theorem walk (a0 a1 : Int) (w : World) : Calls Try.prog 7 #[.int .i64 a0, .int .i64 a1] w fun e w' => e = .returned (.bool true) ∧ Fresh w w' := by
  go_enter Try.func7, Try.ntmps7
  go_wp2_with (go_at_call 10; refine (fixed_any _).mono ?_; rintro e w1 ⟨rfl, h1⟩)
  have T0 := TabI.new2 w1 0 30 3
  have F0 : Fresh w (w1.alloc (.cells #[.int .i64 0, .int .i64 30] 3)) := h1.alloc _ _
  generalize w1.alloc _ = W0 at *
  generalize w1.heap.size = B at *
  clear h1
  go_loopw [44] (fun i wr => ∃ k : Int, 0 ≤ k ∧ k ≤ 2 ∧ i = .int .i64 k ∧ TabI [0, 30] B wr ∧ Fresh w wr) (fun i _ => 2 - (intOf i).toNat)
  case atStart => exact ⟨0, by omega, by omega, rfl, T0, F0⟩
  case round =>
    obtain ⟨k, hk0, hk, rfl, T, F⟩ := hrel
    clear T0 F0
    have hk' : k = 0 ∨ k = 1 ∨ k = 2 := by omega
    rcases hk' with rfl | rfl | rfl
    · have e0 : wr.cell? ⟨B, 0, none⟩ = some (.int .i64 0) := T.c 0 (by decide)
      go_upto_region 9 with (first | (go_at_call 28; refine (int_x _ _).mono ?_; rintro e w' ⟨rfl, rfl⟩) | (go_at_call 26; refine (long_x _ _).mono ?_; rintro e w' ⟨rfl, rfl⟩))
      go_cut [6, 7, 8, 60, 61, 62] (fun s6 s7 s8 s60 s61 s62 wx => s6 = .int .i64 0 ∧ At s7 wx 1 (wrap32 a0 % 4294967296) ∧ At s8 wx 1 (wrap32 a1 % 4294967296) ∧ (∃ B2 : Nat, s60 = .slice (some ⟨B2, 0, none⟩) 7 7 ∧ TabI opsL B2 wx) ∧ s61 = .int .i64 7 ∧ s62 = .int .i64 0 ∧ Fresh wr wx)
      case first =>
        go_wp2_with fail
        go_meet
        exact ⟨rfl, At.mk ⟨by first | (simp; done) | (simp; omega), by simp [go_sem, *], by simp [go_sem, *], by simp [go_sem, *]⟩, At.mk ⟨by first | (simp; done) | (simp; omega), by simp [go_sem, *], by simp [go_sem, *], by simp [go_sem, *]⟩, ⟨_, rfl, TabI.new7' _ _ (by simp)⟩, rfl, rfl, by (repeat' first | with_reducible exact Fresh.refl _ | with_reducible assumption | with_reducible refine Fresh.alloc ?_ _ _ | with_reducible refine Fresh.drew ?_ | with_reducible refine Fresh.setCell ?_ ?_ _ | with_reducible refine Fresh.trans ?_ (by assumption) | (simp; done) | (simp; omega))⟩
      case rest =>
        obtain ⟨rfl, ⟨p7, rfl, o7⟩, ⟨p8, rfl, o8⟩, ⟨B2, rfl, T2⟩, rfl, rfl, hf⟩ := hcut
        have A0 : 0 ≤ (wrap32 a0 % 4294967296) := Int.emod_nonneg _ (by decide)
        have A1 : (wrap32 a0 % 4294967296) < 4294967296 := Int.emod_lt_of_pos _ (by decide)
        have B0 : 0 ≤ (wrap32 a1 % 4294967296) := Int.emod_nonneg _ (by decide)
        have B1 : (wrap32 a1 % 4294967296) < 4294967296 := Int.emod_lt_of_pos _ (by decide)
        generalize (wrap32 a0 % 4294967296) = X at *
        generalize (wrap32 a1 % 4294967296) = Y at *
        have A1 := Lib.hid A1
        have B1 := Lib.hid B1
        have T := T.later hf
        have F := F.trans hf
        clear hf e0
        generalize wc = W1 at *
        obtain ⟨s, hs0, hs1, hs2⟩ := back32 X Y A0 A1.out B0 B1.out
        have C3 : Hid (Gives 3 1 X Y 1 s true) := gives A0 B0 hs1
        have C4 : Hid (Gives 4 1 s Y 1 X true) := gives hs0 B0 hs2
        clear hs1 hs2
        go_wp2_with fail
        go_loopw [62] (fun i wq => ∃ j : Nat, j ≤ 7 ∧ i = .int .i64 j ∧ TabI opsL B2 wq ∧ Fresh W1 wq) (fun i _ => 7 - (intOf i).toNat)
        case atStart => exact ⟨0, by omega, rfl, T2, Fresh.refl _⟩
        case round =>
          obtain ⟨j, hj, rfl, Tq, Fq⟩ := hrel
          skip
          clear T2
          have o7 := o7.later Fq
          have o8 := o8.later Fq
          by_cases hlt : j < 7
          · have e1 := Tq.c j (by simpa [opsL] using hlt)
            obtain ⟨hm, hm0, hm1⟩ := ops_mem j hlt
            generalize opsL.getD j 0 = o at *
            obtain ⟨r, v, hc⟩ := comm32 o X Y hm A0 A1.out B0 B1.out
            have C1 : Hid (Gives o 1 X Y r v true) := gives A0 B0 hc.l
            have C2 : Hid (Gives o 1 Y X r v true) := gives B0 A0 hc.r
            clear hc hm C3 C4
            obtain ⟨a7, b7, d7⟩ := own_cells o7
            have y7 := o7.size
            obtain ⟨a8, b8, d8⟩ := own_cells o8
            have y8 := o8.size
            go_wp2_with (first | (go_at_call 11; ((with_reducible refine (C1.out _).mono ?_); rintro e w2 ⟨rfl, h2⟩; obtain ⟨c2, f2⟩ := h2.cells; have z20 := h2.z (n := p7) (by first | assumption | (simp; done) | (simp; assumption) | (simp; omega)); have z21 := h2.z (n := p8) (by first | assumption | (simp; done) | (simp; assumption) | (simp; omega)))) | (go_at_call 11; ((with_reducible refine (C2.out _).mono ?_); rintro e w3 ⟨rfl, h3⟩; obtain ⟨c3, f3⟩ := h3.cells; have z30 := h3.z (n := p7) (by first | assumption | (simp; done) | (simp; assumption) | (simp; omega)); have z31 := h3.z (n := p8) (by first | assumption | (simp; done) | (simp; assumption) | (simp; omega)); have z32 := h3.z (n := w2.heap.size) (by first | assumption | (simp; done) | (simp; assumption) | (simp; omega)))))
            go_roundw
            case rel => exact ⟨j + 1, by omega, by go_num, Tq.later (by (repeat' first | with_reducible exact Fresh.refl _ | with_reducible assumption | with_reducible refine Fresh.alloc ?_ _ _ | with_reducible refine Fresh.drew ?_ | with_reducible refine Fresh.setCell ?_ ?_ _ | with_reducible refine Fresh.trans ?_ (by assumption) | (simp; done) | (simp; omega))), Fq.trans (by (repeat' first | with_reducible exact Fresh.refl _ | with_reducible assumption | with_reducible refine Fresh.alloc ?_ _ _ | with_reducible refine Fresh.drew ?_ | with_reducible refine Fresh.setCell ?_ ?_ _ | with_reducible refine Fresh.trans ?_ (by assumption) | (simp; done) | (simp; omega)))⟩
            case measure => simp [intOf]; omega
          · have F := F.trans Fq
            have T := T.later Fq
            clear Fq Tq
            obtain ⟨a7, b7, d7⟩ := own_cells o7
            have y7 := o7.size
            obtain ⟨a8, b8, d8⟩ := own_cells o8
            have y8 := o8.size
            go_upto_region 21 with (first | (go_at_call 11; ((with_reducible refine (C3.out _).mono ?_); rintro e w2 ⟨rfl, h2⟩; obtain ⟨c2, f2⟩ := h2.cells; have z20 := h2.z (n := p7) (by first | assumption | (simp; done) | (simp; assumption) | (simp; omega)); have z21 := h2.z (n := p8) (by first | assumption | (simp; done) | (simp; assumption) | (simp; omega)))) | (go_at_call 11; ((with_reducible refine (C4.out _).mono ?_); rintro e w3 ⟨rfl, h3⟩; obtain ⟨c3, f3⟩ := h3.cells; have z30 := h3.z (n := p7) (by first | assumption | (simp; done) | (simp; assumption) | (simp; omega)); have z31 := h3.z (n := p8) (by first | assumption | (simp; done) | (simp; assumption) | (simp; omega)); have z32 := h3.z (n := w2.heap.size) (by first | assumption | (simp; done) | (simp; assumption) | (simp; omega)))))
            go_cut [115, 116, 117] (fun s115 s116 s117 wx => (∃ B3 : Nat, s115 = .slice (some ⟨B3, 0, none⟩) 2 2 ∧ TabI [6, 7] B3 wx) ∧ s116 = .int .i64 2 ∧ s117 = .int .i64 0 ∧ Fresh wr wx)
            case first =>
              go_wp2_with fail
              go_meet
              exact ⟨⟨_, rfl, TabI.new2' _ _ _ _ (by simp)⟩, rfl, rfl, by (repeat' first | with_reducible exact Fresh.refl _ | with_reducible assumption | with_reducible refine Fresh.alloc ?_ _ _ | with_reducible refine Fresh.drew ?_ | with_reducible refine Fresh.setCell ?_ ?_ _ | with_reducible refine Fresh.trans ?_ (by assumption) | (simp; done) | (simp; omega))⟩
            case rest =>
              obtain ⟨⟨B3, rfl, T3⟩, rfl, rfl, hf⟩ := hcut
              have o7 := o7.later hf
              have o8 := o8.later hf
              have T := T.later hf
              have F := F.trans hf
              clear hf C3 C4 a7 b7 d7 a8 b8 d8 y7 y8
              generalize wc = W2 at *
              go_wp2_with fail
              go_loopw [117] (fun i wq => ∃ j : Int, 0 ≤ j ∧ j ≤ 2 ∧ i = .int .i64 j ∧ TabI [6, 7] B3 wq ∧ Fresh W2 wq) (fun i _ => 2 - (intOf i).toNat)
              case atStart => exact ⟨0, by omega, by omega, rfl, T3, Fresh.refl _⟩
              case round =>
                obtain ⟨j, hj0, hj, rfl, Tq, Fq⟩ := hrel
                clear T3
                have o7 := o7.later Fq
                have o8 := o8.later Fq
                have hj' : j = 0 ∨ j = 1 ∨ j = 2 := by omega
                rcases hj' with rfl | rfl | rfl
                · have e1 : wr.cell? ⟨B3, 0, none⟩ = some (.int .i64 6) := Tq.c 0 (by decide)
                  obtain ⟨a7, b7, d7⟩ := own_cells o7
                  have y7 := o7.size
                  obtain ⟨a8, b8, d8⟩ := own_cells o8
                  have y8 := o8.size
                  rcases div32 X Y A0 A1.out B0 B1.out 6 (by decide) with hn | ⟨q, r, x, hd⟩
                  · have C5 : Hid (Gives 6 1 X Y 0 0 false) := gives A0 B0 hn.q
                    have C6 : Hid (Gives 8 1 X Y 0 0 false) := gives A0 B0 hn.r
                    clear hn
                    go_wp2_with (first | (go_at_call 11; ((with_reducible refine (C5.out _).mono ?_); rintro e w2 ⟨rfl, h2⟩; obtain ⟨c2, f2⟩ := h2.cells; have z20 := h2.z (n := p7) (by first | assumption | (simp; done) | (simp; assumption) | (simp; omega)); have z21 := h2.z (n := p8) (by first | assumption | (simp; done) | (simp; assumption) | (simp; omega)))) | (go_at_call 11; ((with_reducible refine (C6.out _).mono ?_); rintro e w3 ⟨rfl, h3⟩; obtain ⟨c3, f3⟩ := h3.cells; have z30 := h3.z (n := p7) (by first | assumption | (simp; done) | (simp; assumption) | (simp; omega)); have z31 := h3.z (n := p8) (by first | assumption | (simp; done) | (simp; assumption) | (simp; omega)); have z32 := h3.z (n := w2.heap.size) (by first | assumption | (simp; done) | (simp; assumption) | (simp; omega)))))
                    go_roundw
                    case rel => exact ⟨1, by omega, by omega, rfl, Tq.later (by (repeat' first | with_reducible exact Fresh.refl _ | with_reducible assumption | with_reducible refine Fresh.alloc ?_ _ _ | with_reducible refine Fresh.drew ?_ | with_reducible refine Fresh.setCell ?_ ?_ _ | with_reducible refine Fresh.trans ?_ (by assumption) | (simp; done) | (simp; omega))), Fq.trans (by (repeat' first | with_reducible exact Fresh.refl _ | with_reducible assumption | with_reducible refine Fresh.alloc ?_ _ _ | with_reducible refine Fresh.drew ?_ | with_reducible refine Fresh.setCell ?_ ?_ _ | with_reducible refine Fresh.trans ?_ (by assumption) | (simp; done) | (simp; omega)))⟩
                    case measure => simp [intOf]
                  · have C5 : Hid (Gives 6 1 X Y 1 q true) := gives A0 B0 hd.dq
                    have C6 : Hid (Gives 8 1 X Y 1 r true) := gives A0 B0 hd.dr
                    have C7 : Hid (Gives 5 1 q Y 1 x true) := gives hd.hq B0 hd.dp
                    have C8 : Hid (Gives 3 1 x r 1 X true) := gives hd.hx hd.hr hd.ds
                    clear hd
                    go_wp2_with (first | (go_at_call 11; ((with_reducible refine (C5.out _).mono ?_); rintro e w2 ⟨rfl, h2⟩; obtain ⟨c2, f2⟩ := h2.cells; have z20 := h2.z (n := p7) (by first | assumption | (simp; done) | (simp; assumption) | (simp; omega)); have z21 := h2.z (n := p8) (by first | assumption | (simp; done) | (simp; assumption) | (simp; omega)))) | (go_at_call 11; ((with_reducible refine (C6.out _).mono ?_); rintro e w3 ⟨rfl, h3⟩; obtain ⟨c3, f3⟩ := h3.cells; have z30 := h3.z (n := p7) (by first | assumption | (simp; done) | (simp; assumption) | (simp; omega)); have z31 := h3.z (n := p8) (by first | assumption | (simp; done) | (simp; assumption) | (simp; omega)); have z32 := h3.z (n := w2.heap.size) (by first | assumption | (simp; done) | (simp; assumption) | (simp; omega)))) | (go_at_call 11; ((with_reducible refine (C7.out _).mono ?_); rintro e w4 ⟨rfl, h4⟩; obtain ⟨c4, f4⟩ := h4.cells; have z40 := h4.z (n := p7) (by first | assumption | (simp; done) | (simp; assumption) | (simp; omega)); have z41 := h4.z (n := p8) (by first | assumption | (simp; done) | (simp; assumption) | (simp; omega)); have z42 := h4.z (n := w2.heap.size) (by first | assumption | (simp; done) | (simp; assumption) | (simp; omega)); have z43 := h4.z (n := w3.heap.size) (by first | assumption | (simp; done) | (simp; assumption) | (simp; omega)))) | (go_at_call 11; ((with_reducible refine (C8.out _).mono ?_); rintro e w5 ⟨rfl, h5⟩; obtain ⟨c5, f5⟩ := h5.cells; have z50 := h5.z (n := p7) (by first | assumption | (simp; done) | (simp; assumption) | (simp; omega)); have z51 := h5.z (n := p8) (by first | assumption | (simp; done) | (simp; assumption) | (simp; omega)); have z52 := h5.z (n := w2.heap.size) (by first | assumption | (simp; done) | (simp; assumption) | (simp; omega)); have z53 := h5.z (n := w3.heap.size) (by first | assumption | (simp; done) | (simp; assumption) | (simp; omega)); have z54 := h5.z (n := w4.heap.size) (by first | assumption | (simp; done) | (simp; assumption) | (simp; omega)))))
                    go_roundw
                    case rel => exact ⟨1, by omega, by omega, rfl, Tq.later (by (repeat' first | with_reducible exact Fresh.refl _ | with_reducible assumption | with_reducible refine Fresh.alloc ?_ _ _ | with_reducible refine Fresh.drew ?_ | with_reducible refine Fresh.setCell ?_ ?_ _ | with_reducible refine Fresh.trans ?_ (by assumption) | (simp; done) | (simp; omega))), Fq.trans (by (repeat' first | with_reducible exact Fresh.refl _ | with_reducible assumption | with_reducible refine Fresh.alloc ?_ _ _ | with_reducible refine Fresh.drew ?_ | with_reducible refine Fresh.setCell ?_ ?_ _ | with_reducible refine Fresh.trans ?_ (by assumption) | (simp; done) | (simp; omega)))⟩
                    case measure => simp [intOf]
                · have e1 : wr.cell? ⟨B3, 1, none⟩ = some (.int .i64 7) := Tq.c 1 (by decide)
                  obtain ⟨a7, b7, d7⟩ := own_cells o7
                  have y7 := o7.size
                  obtain ⟨a8, b8, d8⟩ := own_cells o8
                  have y8 := o8.size
                  rcases div32 X Y A0 A1.out B0 B1.out 7 (by decide) with hn | ⟨q, r, x, hd⟩
                  · have C5 : Hid (Gives 7 1 X Y 0 0 false) := gives A0 B0 hn.q
                    have C6 : Hid (Gives 9 1 X Y 0 0 false) := gives A0 B0 hn.r
                    clear hn
                    go_wp2_with (first | (go_at_call 11; ((with_reducible refine (C5.out _).mono ?_); rintro e w2 ⟨rfl, h2⟩; obtain ⟨c2, f2⟩ := h2.cells; have z20 := h2.z (n := p7) (by first | assumption | (simp; done) | (simp; assumption) | (simp; omega)); have z21 := h2.z (n := p8) (by first | assumption | (simp; done) | (simp; assumption) | (simp; omega)))) | (go_at_call 11; ((with_reducible refine (C6.out _).mono ?_); rintro e w3 ⟨rfl, h3⟩; obtain ⟨c3, f3⟩ := h3.cells; have z30 := h3.z (n := p7) (by first | assumption | (simp; done) | (simp; assumption) | (simp; omega)); have z31 := h3.z (n := p8) (by first | assumption | (simp; done) | (simp; assumption) | (simp; omega)); have z32 := h3.z (n := w2.heap.size) (by first | assumption | (simp; done) | (simp; assumption) | (simp; omega)))))
                    go_roundw
                    case rel => exact ⟨2, by omega, by omega, rfl, Tq.later (by (repeat' first | with_reducible exact Fresh.refl _ | with_reducible assumption | with_reducible refine Fresh.alloc ?_ _ _ | with_reducible refine Fresh.drew ?_ | with_reducible refine Fresh.setCell ?_ ?_ _ | with_reducible refine Fresh.trans ?_ (by assumption) | (simp; done) | (simp; omega))), Fq.trans (by (repeat' first | with_reducible exact Fresh.refl _ | with_reducible assumption | with_reducible refine Fresh.alloc ?_ _ _ | with_reducible refine Fresh.drew ?_ | with_reducible refine Fresh.setCell ?_ ?_ _ | with_reducible refine Fresh.trans ?_ (by assumption) | (simp; done) | (simp; omega)))⟩
                    case measure => simp [intOf]
                  · have C5 : Hid (Gives 7 1 X Y 1 q true) := gives A0 B0 hd.dq
                    have C6 : Hid (Gives 9 1 X Y 1 r true) := gives A0 B0 hd.dr
                    have C7 : Hid (Gives 5 1 q Y 1 x true) := gives hd.hq B0 hd.dp
                    have C8 : Hid (Gives 3 1 x r 1 X true) := gives hd.hx hd.hr hd.ds
                    clear hd
                    go_wp2_with (first | (go_at_call 11; ((with_reducible refine (C5.out _).mono ?_); rintro e w2 ⟨rfl, h2⟩; obtain ⟨c2, f2⟩ := h2.cells; have z20 := h2.z (n := p7) (by first | assumption | (simp; done) | (simp; assumption) | (simp; omega)); have z21 := h2.z (n := p8) (by first | assumption | (simp; done) | (simp; assumption) | (simp; omega)))) | (go_at_call 11; ((with_reducible refine (C6.out _).mono ?_); rintro e w3 ⟨rfl, h3⟩; obtain ⟨c3, f3⟩ := h3.cells; have z30 := h3.z (n := p7) (by first | assumption | (simp; done) | (simp; assumption) | (simp; omega)); have z31 := h3.z (n := p8) (by first | assumption | (simp; done) | (simp; assumption) | (simp; omega)); have z32 := h3.z (n := w2.heap.size) (by first | assumption | (simp; done) | (simp; assumption) | (simp; omega)))) | (go_at_call 11; ((with_reducible refine (C7.out _).mono ?_); rintro e w4 ⟨rfl, h4⟩; obtain ⟨c4, f4⟩ := h4.cells; have z40 := h4.z (n := p7) (by first | assumption | (simp; done) | (simp; assumption) | (simp; omega)); have z41 := h4.z (n := p8) (by first | assumption | (simp; done) | (simp; assumption) | (simp; omega)); have z42 := h4.z (n := w2.heap.size) (by first | assumption | (simp; done) | (simp; assumption) | (simp; omega)); have z43 := h4.z (n := w3.heap.size) (by first | assumption | (simp; done) | (simp; assumption) | (simp; omega)))) | (go_at_call 11; ((with_reducible refine (C8.out _).mono ?_); rintro e w5 ⟨rfl, h5⟩; obtain ⟨c5, f5⟩ := h5.cells; have z50 := h5.z (n := p7) (by first | assumption | (simp; done) | (simp; assumption) | (simp; omega)); have z51 := h5.z (n := p8) (by first | assumption | (simp; done) | (simp; assumption) | (simp; omega)); have z52 := h5.z (n := w2.heap.size) (by first | assumption | (simp; done) | (simp; assumption) | (simp; omega)); have z53 := h5.z (n := w3.heap.size) (by first | assumption | (simp; done) | (simp; assumption) | (simp; omega)); have z54 := h5.z (n := w4.heap.size) (by first | assumption | (simp; done) | (simp; assumption) | (simp; omega)))))
                    go_roundw
                    case rel => exact ⟨2, by omega, by omega, rfl, Tq.later (by (repeat' first | with_reducible exact Fresh.refl _ | with_reducible assumption | with_reducible refine Fresh.alloc ?_ _ _ | with_reducible refine Fresh.drew ?_ | with_reducible refine Fresh.setCell ?_ ?_ _ | with_reducible refine Fresh.trans ?_ (by assumption) | (simp; done) | (simp; omega))), Fq.trans (by (repeat' first | with_reducible exact Fresh.refl _ | with_reducible assumption | with_reducible refine Fresh.alloc ?_ _ _ | with_reducible refine Fresh.drew ?_ | with_reducible refine Fresh.setCell ?_ ?_ _ | with_reducible refine Fresh.trans ?_ (by assumption) | (simp; done) | (simp; omega)))⟩
                    case measure => simp [intOf]
                · go_wp2
                  go_roundw
                  case rel => exact ⟨1, by omega, by omega, rfl, T.later Fq, F.trans Fq⟩
                  case measure => simp [intOf]
    · have e0 : wr.cell? ⟨B, 1, none⟩ = some (.int .i64 30) := T.c 1 (by decide)
      go_upto_region 9 with (first | (go_at_call 28; refine (int_x _ _).mono ?_; rintro e w' ⟨rfl, rfl⟩) | (go_at_call 26; refine (long_x _ _).mono ?_; rintro e w' ⟨rfl, rfl⟩))
      go_cut [6, 7, 8, 60, 61, 62] (fun s6 s7 s8 s60 s61 s62 wx => s6 = .int .i64 30 ∧ At s7 wx 2 (IntKind.u64.wrap a0) ∧ At s8 wx 2 (IntKind.u64.wrap a1) ∧ (∃ B2 : Nat, s60 = .slice (some ⟨B2, 0, none⟩) 7 7 ∧ TabI opsL B2 wx) ∧ s61 = .int .i64 7 ∧ s62 = .int .i64 0 ∧ Fresh wr wx)
      case first =>
        go_wp2_with fail
        go_meet
        exact ⟨rfl, At.mk ⟨by first | (simp; done) | (simp; omega), by simp [go_sem, *], by simp [go_sem, *], by simp [go_sem, *]⟩, At.mk ⟨by first | (simp; done) | (simp; omega), by simp [go_sem, *], by simp [go_sem, *], by simp [go_sem, *]⟩, ⟨_, rfl, TabI.new7' _ _ (by simp)⟩, rfl, rfl, by (repeat' first | with_reducible exact Fresh.refl _ | with_reducible assumption | with_reducible refine Fresh.alloc ?_ _ _ | with_reducible refine Fresh.drew ?_ | with_reducible refine Fresh.setCell ?_ ?_ _ | with_reducible refine Fresh.trans ?_ (by assumption) | (simp; done) | (simp; omega))⟩
      case rest =>
        obtain ⟨rfl, ⟨p7, rfl, o7⟩, ⟨p8, rfl, o8⟩, ⟨B2, rfl, T2⟩, rfl, rfl, hf⟩ := hcut
        have A0 := (u64_r a0).1
        have A1 := Lib.hid (u64_r a0).2
        have B0 := (u64_r a1).1
        have B1 := Lib.hid (u64_r a1).2
        generalize (IntKind.u64.wrap a0) = X at *
        generalize (IntKind.u64.wrap a1) = Y at *
        have T := T.later hf
        have F := F.trans hf
        clear hf e0
        generalize wc = W1 at *
        obtain ⟨s, hs0, hs1, hs2⟩ := back64 X Y A0 A1.out B0 B1.out
        have C3 : Hid (Gives 33 2 X Y 2 s true) := gives A0 B0 hs1
        have C4 : Hid (Gives 34 2 s Y 2 X true) := gives hs0 B0 hs2
        clear hs1 hs2
        go_wp2_with fail
        go_loopw [62] (fun i wq => ∃ j : Nat, j ≤ 7 ∧ i = .int .i64 j ∧ TabI opsL B2 wq ∧ Fresh W1 wq) (fun i _ => 7 - (intOf i).toNat)
        case atStart => exact ⟨0, by omega, rfl, T2, Fresh.refl _⟩
        case round =>
          obtain ⟨j, hj, rfl, Tq, Fq⟩ := hrel
          skip
          clear T2
          have o7 := o7.later Fq
          have o8 := o8.later Fq
          by_cases hlt : j < 7
          · have e1 := Tq.c j (by simpa [opsL] using hlt)
            obtain ⟨hm, hm0, hm1⟩ := ops_mem j hlt
            generalize opsL.getD j 0 = o at *
            obtain ⟨r, v, hc⟩ := comm64 o X Y hm
            have C1 : Hid (Gives (o + 30) 2 X Y r v true) := gives A0 B0 hc.l
            have C2 : Hid (Gives (o + 30) 2 Y X r v true) := gives B0 A0 hc.r
            clear hc hm C3 C4
            obtain ⟨a7, b7, d7⟩ := own_cells o7
            have y7 := o7.size
            obtain ⟨a8, b8, d8⟩ := own_cells o8
            have y8 := o8.size
            go_wp2_with (first | (go_at_call 11; ((with_reducible refine (C1.out _).mono ?_); rintro e w2 ⟨rfl, h2⟩; obtain ⟨c2, f2⟩ := h2.cells; have z20 := h2.z (n := p7) (by first | assumption | (simp; done) | (simp; assumption) | (simp; omega)); have z21 := h2.z (n := p8) (by first | assumption | (simp; done) | (simp; assumption) | (simp; omega)))) | (go_at_call 11; ((with_reducible refine (C2.out _).mono ?_); rintro e w3 ⟨rfl, h3⟩; obtain ⟨c3, f3⟩ := h3.cells; have z30 := h3.z (n := p7) (by first | assumption | (simp; done) | (simp; assumption) | (simp; omega)); have z31 := h3.z (n := p8) (by first | assumption | (simp; done) | (simp; assumption) | (simp; omega)); have z32 := h3.z (n := w2.heap.size) (by first | assumption | (simp; done) | (simp; assumption) | (simp; omega)))))
            go_roundw
            case rel => exact ⟨j + 1, by omega, by go_num, Tq.later (by (repeat' first | with_reducible exact Fresh.refl _ | with_reducible assumption | with_reducible refine Fresh.alloc ?_ _ _ | with_reducible refine Fresh.drew ?_ | with_reducible refine Fresh.setCell ?_ ?_ _ | with_reducible refine Fresh.trans ?_ (by assumption) | (simp; done) | (simp; omega))), Fq.trans (by (repeat' first | with_reducible exact Fresh.refl _ | with_reducible assumption | with_reducible refine Fresh.alloc ?_ _ _ | with_reducible refine Fresh.drew ?_ | with_reducible refine Fresh.setCell ?_ ?_ _ | with_reducible refine Fresh.trans ?_ (by assumption) | (simp; done) | (simp; omega)))⟩
            case measure => simp [intOf]; omega
          · have F := F.trans Fq
            have T := T.later Fq
            clear Fq Tq
            obtain ⟨a7, b7, d7⟩ := own_cells o7
            have y7 := o7.size
            obtain ⟨a8, b8, d8⟩ := own_cells o8
            have y8 := o8.size
            go_upto_region 21 with (first | (go_at_call 11; ((with_reducible refine (C3.out _).mono ?_); rintro e w2 ⟨rfl, h2⟩; obtain ⟨c2, f2⟩ := h2.cells; have z20 := h2.z (n := p7) (by first | assumption | (simp; done) | (simp; assumption) | (simp; omega)); have z21 := h2.z (n := p8) (by first | assumption | (simp; done) | (simp; assumption) | (simp; omega)))) | (go_at_call 11; ((with_reducible refine (C4.out _).mono ?_); rintro e w3 ⟨rfl, h3⟩; obtain ⟨c3, f3⟩ := h3.cells; have z30 := h3.z (n := p7) (by first | assumption | (simp; done) | (simp; assumption) | (simp; omega)); have z31 := h3.z (n := p8) (by first | assumption | (simp; done) | (simp; assumption) | (simp; omega)); have z32 := h3.z (n := w2.heap.size) (by first | assumption | (simp; done) | (simp; assumption) | (simp; omega)))))
            go_cut [115, 116, 117] (fun s115 s116 s117 wx => (∃ B3 : Nat, s115 = .slice (some ⟨B3, 0, none⟩) 2 2 ∧ TabI [6, 7] B3 wx) ∧ s116 = .int .i64 2 ∧ s117 = .int .i64 0 ∧ Fresh wr wx)
            case first =>
              go_wp2_with fail
              go_meet
              exact ⟨⟨_, rfl, TabI.new2' _ _ _ _ (by simp)⟩, rfl, rfl, by (repeat' first | with_reducible exact Fresh.refl _ | with_reducible assumption | with_reducible refine Fresh.alloc ?_ _ _ | with_reducible refine Fresh.drew ?_ | with_reducible refine Fresh.setCell ?_ ?_ _ | with_reducible refine Fresh.trans ?_ (by assumption) | (simp; done) | (simp; omega))⟩
            case rest =>
              obtain ⟨⟨B3, rfl, T3⟩, rfl, rfl, hf⟩ := hcut
              have o7 := o7.later hf
              have o8 := o8.later hf
              have T := T.later hf
              have F := F.trans hf
              clear hf C3 C4 a7 b7 d7 a8 b8 d8 y7 y8
              generalize wc = W2 at *
              go_wp2_with fail
              go_loopw [117] (fun i wq => ∃ j : Int, 0 ≤ j ∧ j ≤ 2 ∧ i = .int .i64 j ∧ TabI [6, 7] B3 wq ∧ Fresh W2 wq) (fun i _ => 2 - (intOf i).toNat)
              case atStart => exact ⟨0, by omega, by omega, rfl, T3, Fresh.refl _⟩
              case round =>
                obtain ⟨j, hj0, hj, rfl, Tq, Fq⟩ := hrel
                clear T3
                have o7 := o7.later Fq
                have o8 := o8.later Fq
                have hj' : j = 0 ∨ j = 1 ∨ j = 2 := by omega
                rcases hj' with rfl | rfl | rfl
                · have e1 : wr.cell? ⟨B3, 0, none⟩ = some (.int .i64 6) := Tq.c 0 (by decide)
                  obtain ⟨a7, b7, d7⟩ := own_cells o7
                  have y7 := o7.size
                  obtain ⟨a8, b8, d8⟩ := own_cells o8
                  have y8 := o8.size
                  rcases div64 X Y A0 A1.out B0 B1.out 36 (by decide) with hn | ⟨q, r, x, hd⟩
                  · have C5 : Hid (Gives 36 2 X Y 0 0 false) := gives A0 B0 hn.q
                    have C6 : Hid (Gives 38 2 X Y 0 0 false) := gives A0 B0 hn.r
                    clear hn
                    go_wp2_with (first | (go_at_call 11; ((with_reducible refine (C5.out _).mono ?_); rintro e w2 ⟨rfl, h2⟩; obtain ⟨c2, f2⟩ := h2.cells; have z20 := h2.z (n := p7) (by first | assumption | (simp; done) | (simp; assumption) | (simp; omega)); have z21 := h2.z (n := p8) (by first | assumption | (simp; done) | (simp; assumption) | (simp; omega)))) | (go_at_call 11; ((with_reducible refine (C6.out _).mono ?_); rintro e w3 ⟨rfl, h3⟩; obtain ⟨c3, f3⟩ := h3.cells; have z30 := h3.z (n := p7) (by first | assumption | (simp; done) | (simp; assumption) | (simp; omega)); have z31 := h3.z (n := p8) (by first | assumption | (simp; done) | (simp; assumption) | (simp; omega)); have z32 := h3.z (n := w2.heap.size) (by first | assumption | (simp; done) | (simp; assumption) | (simp; omega)))))
                    go_roundw
                    case rel => exact ⟨1, by omega, by omega, rfl, Tq.later (by (repeat' first | with_reducible exact Fresh.refl _ | with_reducible assumption | with_reducible refine Fresh.alloc ?_ _ _ | with_reducible refine Fresh.drew ?_ | with_reducible refine Fresh.setCell ?_ ?_ _ | with_reducible refine Fresh.trans ?_ (by assumption) | (simp; done) | (simp; omega))), Fq.trans (by (repeat' first | with_reducible exact Fresh.refl _ | with_reducible assumption | with_reducible refine Fresh.alloc ?_ _ _ | with_reducible refine Fresh.drew ?_ | with_reducible refine Fresh.setCell ?_ ?_ _ | with_reducible refine Fresh.trans ?_ (by assumption) | (simp; done) | (simp; omega)))⟩
                    case measure => simp [intOf]
                  · have C5 : Hid (Gives 36 2 X Y 2 q true) := gives A0 B0 hd.dq
                    have C6 : Hid (Gives 38 2 X Y 2 r true) := gives A0 B0 hd.dr
                    have C7 : Hid (Gives 35 2 q Y 2 x true) := gives hd.hq B0 hd.dp
                    have C8 : Hid (Gives 33 2 x r 2 X true) := gives hd.hx hd.hr hd.ds
                    clear hd
                    go_wp2_with (first | (go_at_call 11; ((with_reducible refine (C5.out _).mono ?_); rintro e w2 ⟨rfl, h2⟩; obtain ⟨c2, f2⟩ := h2.cells; have z20 := h2.z (n := p7) (by first | assumption | (simp; done) | (simp; assumption) | (simp; omega)); have z21 := h2.z (n := p8) (by first | assumption | (simp; done) | (simp; assumption) | (simp; omega)))) | (go_at_call 11; ((with_reducible refine (C6.out _).mono ?_); rintro e w3 ⟨rfl, h3⟩; obtain ⟨c3, f3⟩ := h3.cells; have z30 := h3.z (n := p7) (by first | assumption | (simp; done) | (simp; assumption) | (simp; omega)); have z31 := h3.z (n := p8) (by first | assumption | (simp; done) | (simp; assumption) | (simp; omega)); have z32 := h3.z (n := w2.heap.size) (by first | assumption | (simp; done) | (simp; assumption) | (simp; omega)))) | (go_at_call 11; ((with_reducible refine (C7.out _).mono ?_); rintro e w4 ⟨rfl, h4⟩; obtain ⟨c4, f4⟩ := h4.cells; have z40 := h4.z (n := p7) (by first | assumption | (simp; done) | (simp; assumption) | (simp; omega)); have z41 := h4.z (n := p8) (by first | assumption | (simp; done) | (simp; assumption) | (simp; omega)); have z42 := h4.z (n := w2.heap.size) (by first | assumption | (simp; done) | (simp; assumption) | (simp; omega)); have z43 := h4.z (n := w3.heap.size) (by first | assumption | (simp; done) | (simp; assumption) | (simp; omega)))) | (go_at_call 11; ((with_reducible refine (C8.out _).mono ?_); rintro e w5 ⟨rfl, h5⟩; obtain ⟨c5, f5⟩ := h5.cells; have z50 := h5.z (n := p7) (by first | assumption | (simp; done) | (simp; assumption) | (simp; omega)); have z51 := h5.z (n := p8) (by first | assumption | (simp; done) | (simp; assumption) | (simp; omega)); have z52 := h5.z (n := w2.heap.size) (by first | assumption | (simp; done) | (simp; assumption) | (simp; omega)); have z53 := h5.z (n := w3.heap.size) (by first | assumption | (simp; done) | (simp; assumption) | (simp; omega)); have z54 := h5.z (n := w4.heap.size) (by first | assumption | (simp; done) | (simp; assumption) | (simp; omega)))))
                    go_roundw
                    case rel => exact ⟨1, by omega, by omega, rfl, Tq.later (by (repeat' first | with_reducible exact Fresh.refl _ | with_reducible assumption | with_reducible refine Fresh.alloc ?_ _ _ | with_reducible refine Fresh.drew ?_ | with_reducible refine Fresh.setCell ?_ ?_ _ | with_reducible refine Fresh.trans ?_ (by assumption) | (simp; done) | (simp; omega))), Fq.trans (by (repeat' first | with_reducible exact Fresh.refl _ | with_reducible assumption | with_reducible refine Fresh.alloc ?_ _ _ | with_reducible refine Fresh.drew ?_ | with_reducible refine Fresh.setCell ?_ ?_ _ | with_reducible refine Fresh.trans ?_ (by assumption) | (simp; done) | (simp; omega)))⟩
                    case measure => simp [intOf]
                · have e1 : wr.cell? ⟨B3, 1, none⟩ = some (.int .i64 7) := Tq.c 1 (by decide)
                  obtain ⟨a7, b7, d7⟩ := own_cells o7
                  have y7 := o7.size
                  obtain ⟨a8, b8, d8⟩ := own_cells o8
                  have y8 := o8.size
                  rcases div64 X Y A0 A1.out B0 B1.out 37 (by decide) with hn | ⟨q, r, x, hd⟩
                  · have C5 : Hid (Gives 37 2 X Y 0 0 false) := gives A0 B0 hn.q
                    have C6 : Hid (Gives 39 2 X Y 0 0 false) := gives A0 B0 hn.r
                    clear hn
                    go_wp2_with (first | (go_at_call 11; ((with_reducible refine (C5.out _).mono ?_); rintro e w2 ⟨rfl, h2⟩; obtain ⟨c2, f2⟩ := h2.cells; have z20 := h2.z (n := p7) (by first | assumption | (simp; done) | (simp; assumption) | (simp; omega)); have z21 := h2.z (n := p8) (by first | assumption | (simp; done) | (simp; assumption) | (simp; omega)))) | (go_at_call 11; ((with_reducible refine (C6.out _).mono ?_); rintro e w3 ⟨rfl, h3⟩; obtain ⟨c3, f3⟩ := h3.cells; have z30 := h3.z (n := p7) (by first | assumption | (simp; done) | (simp; assumption) | (simp; omega)); have z31 := h3.z (n := p8) (by first | assumption | (simp; done) | (simp; assumption) | (simp; omega)); have z32 := h3.z (n := w2.heap.size) (by first | assumption | (simp; done) | (simp; assumption) | (simp; omega)))))
                    go_roundw
                    case rel => exact ⟨2, by omega, by omega, rfl, Tq.later (by (repeat' first | with_reducible exact Fresh.refl _ | with_reducible assumption | with_reducible refine Fresh.alloc ?_ _ _ | with_reducible refine Fresh.drew ?_ | with_reducible refine Fresh.setCell ?_ ?_ _ | with_reducible refine Fresh.trans ?_ (by assumption) | (simp; done) | (simp; omega))), Fq.trans (by (repeat' first | with_reducible exact Fresh.refl _ | with_reducible assumption | with_reducible refine Fresh.alloc ?_ _ _ | with_reducible refine Fresh.drew ?_ | with_reducible refine Fresh.setCell ?_ ?_ _ | with_reducible refine Fresh.trans ?_ (by assumption) | (simp; done) | (simp; omega)))⟩
                    case measure => simp [intOf]
                  · have C5 : Hid (Gives 37 2 X Y 2 q true) := gives A0 B0 hd.dq
                    have C6 : Hid (Gives 39 2 X Y 2 r true) := gives A0 B0 hd.dr
                    have C7 : Hid (Gives 35 2 q Y 2 x true) := gives hd.hq B0 hd.dp
                    have C8 : Hid (Gives 33 2 x r 2 X true) := gives hd.hx hd.hr hd.ds
                    clear hd
                    go_wp2_with (first | (go_at_call 11; ((with_reducible refine (C5.out _).mono ?_); rintro e w2 ⟨rfl, h2⟩; obtain ⟨c2, f2⟩ := h2.cells; have z20 := h2.z (n := p7) (by first | assumption | (simp; done) | (simp; assumption) | (simp; omega)); have z21 := h2.z (n := p8) (by first | assumption | (simp; done) | (simp; assumption) | (simp; omega)))) | (go_at_call 11; ((with_reducible refine (C6.out _).mono ?_); rintro e w3 ⟨rfl, h3⟩; obtain ⟨c3, f3⟩ := h3.cells; have z30 := h3.z (n := p7) (by first | assumption | (simp; done) | (simp; assumption) | (simp; omega)); have z31 := h3.z (n := p8) (by first | assumption | (simp; done) | (simp; assumption) | (simp; omega)); have z32 := h3.z (n := w2.heap.size) (by first | assumption | (simp; done) | (simp; assumption) | (simp; omega)))) | (go_at_call 11; ((with_reducible refine (C7.out _).mono ?_); rintro e w4 ⟨rfl, h4⟩; obtain ⟨c4, f4⟩ := h4.cells; have z40 := h4.z (n := p7) (by first | assumption | (simp; done) | (simp; assumption) | (simp; omega)); have z41 := h4.z (n := p8) (by first | assumption | (simp; done) | (simp; assumption) | (simp; omega)); have z42 := h4.z (n := w2.heap.size) (by first | assumption | (simp; done) | (simp; assumption) | (simp; omega)); have z43 := h4.z (n := w3.heap.size) (by first | assumption | (simp; done) | (simp; assumption) | (simp; omega)))) | (go_at_call 11; ((with_reducible refine (C8.out _).mono ?_); rintro e w5 ⟨rfl, h5⟩; obtain ⟨c5, f5⟩ := h5.cells; have z50 := h5.z (n := p7) (by first | assumption | (simp; done) | (simp; assumption) | (simp; omega)); have z51 := h5.z (n := p8) (by first | assumption | (simp; done) | (simp; assumption) | (simp; omega)); have z52 := h5.z (n := w2.heap.size) (by first | assumption | (simp; done) | (simp; assumption) | (simp; omega)); have z53 := h5.z (n := w3.heap.size) (by first | assumption | (simp; done) | (simp; assumption) | (simp; omega)); have z54 := h5.z (n := w4.heap.size) (by first | assumption | (simp; done) | (simp; assumption) | (simp; omega)))))
                    go_roundw
                    case rel => exact ⟨2, by omega, by omega, rfl, Tq.later (by (repeat' first | with_reducible exact Fresh.refl _ | with_reducible assumption | with_reducible refine Fresh.alloc ?_ _ _ | with_reducible refine Fresh.drew ?_ | with_reducible refine Fresh.setCell ?_ ?_ _ | with_reducible refine Fresh.trans ?_ (by assumption) | (simp; done) | (simp; omega))), Fq.trans (by (repeat' first | with_reducible exact Fresh.refl _ | with_reducible assumption | with_reducible refine Fresh.alloc ?_ _ _ | with_reducible refine Fresh.drew ?_ | with_reducible refine Fresh.setCell ?_ ?_ _ | with_reducible refine Fresh.trans ?_ (by assumption) | (simp; done) | (simp; omega)))⟩
                    case measure => simp [intOf]
                · go_wp2
                  go_roundw
                  case rel => exact ⟨2, by omega, by omega, rfl, T.later Fq, F.trans Fq⟩
                  case measure => simp [intOf]
    · clear T
      go_upto_region 36 with (go_at_call 28; refine (int_x _ _).mono ?_; rintro e w' ⟨rfl, rfl⟩)
      go_cut [29, 169, 170, 171] (fun s29 s169 s170 s171 wx => At s29 wx 1 (wrap32 a0 % 4294967296) ∧ (∃ B2 : Nat, s169 = .slice (some ⟨B2, 0, none⟩) 2 2 ∧ TabI [84, 85] B2 wx) ∧ s170 = .int .i64 2 ∧ s171 = .int .i64 0 ∧ Fresh wr wx)
      case first =>
        go_wp2_with fail
        go_meet
        exact ⟨At.mk ⟨by first | (simp; done) | (simp; omega), by simp [go_sem, *], by simp [go_sem, *], by simp [go_sem, *]⟩, ⟨_, rfl, TabI.new2' _ _ _ _ (by simp)⟩, rfl, rfl, by (repeat' first | with_reducible exact Fresh.refl _ | with_reducible assumption | with_reducible refine Fresh.alloc ?_ _ _ | with_reducible refine Fresh.drew ?_ | with_reducible refine Fresh.setCell ?_ ?_ _ | with_reducible refine Fresh.trans ?_ (by assumption) | (simp; done) | (simp; omega))⟩
      case rest =>
        obtain ⟨⟨p7, rfl, o7⟩, ⟨B2, rfl, T2⟩, rfl, rfl, hf⟩ := hcut
        have A0 : 0 ≤ (wrap32 a0 % 4294967296) := Int.emod_nonneg _ (by decide)
        have A1 : (wrap32 a0 % 4294967296) < 4294967296 := Int.emod_lt_of_pos _ (by decide)
        generalize (wrap32 a0 % 4294967296) = X at *
        have D84 : Hid (Turns 84 1 X 2 (IntKind.u64.wrap (wrap32 X))) := Lib.hid (t84 X)
        have D85 : Hid (Turns 85 1 X 2 X) := Lib.hid (t85 X A0 A1)
        have D86s : Hid (Turns 86 2 (IntKind.u64.wrap (wrap32 X)) 1 X) := Lib.hid (t86s X A0 A1)
        have D86u : Hid (Turns 86 2 X 1 X) := Lib.hid (t86u X A0 A1)
        have D87 : Hid (Turns 87 1 X 3 (floatOfInt .f64 (wrap32 X))) := Lib.hid (t87 X)
        have D91 : Hid (Turns 91 3 (floatOfInt .f64 (wrap32 X)) 1 X) := Lib.hid (t91 X A0 A1)
        generalize IntKind.u64.wrap (wrap32 X) = U at *
        generalize ((floatOfInt .f64 (wrap32 X) : Nat) : Int) = V at *
        have F := F.trans hf
        clear hf A0 A1
        generalize wc = W1 at *
        go_wp2_with fail
        go_loopw [171] (fun i wq => ∃ j : Int, 0 ≤ j ∧ j ≤ 2 ∧ i = .int .i64 j ∧ TabI [84, 85] B2 wq ∧ Fresh W1 wq) (fun i _ => 2 - (intOf i).toNat)
        case atStart => exact ⟨0, by omega, by omega, rfl, T2, Fresh.refl _⟩
        case round =>
          obtain ⟨j, hj0, hj, rfl, Tq, Fq⟩ := hrel
          clear T2
          have o7 := o7.later Fq
          obtain ⟨a7, b7, d7⟩ := own_cells o7
          have y7 := o7.size
          have hj' : j = 0 ∨ j = 1 ∨ j = 2 := by omega
          rcases hj' with rfl | rfl | rfl
          · have e1 : wr.cell? ⟨B2, 0, none⟩ = some (.int .i64 84) := Tq.c 0 (by decide)
            go_wp2_with (first | (go_at_call 13; ((with_reducible refine (D84.out _).mono ?_); rintro e w2 ⟨rfl, h2⟩; obtain ⟨c2, f2⟩ := h2.cells; have z20 := h2.z (n := p7) (by first | assumption | (simp; done) | (simp; assumption) | (simp; omega)))) | (go_at_call 13; ((with_reducible refine (D86s.out _).mono ?_); rintro e w3 ⟨rfl, h3⟩; obtain ⟨c3, f3⟩ := h3.cells; have z30 := h3.z (n := p7) (by first | assumption | (simp; done) | (simp; assumption) | (simp; omega)); have z31 := h3.z (n := w2.heap.size) (by first | assumption | (simp; done) | (simp; assumption) | (simp; omega)))))
            go_roundw
            case rel => exact ⟨1, by omega, by omega, rfl, Tq.later (by (repeat' first | with_reducible exact Fresh.refl _ | with_reducible assumption | with_reducible refine Fresh.alloc ?_ _ _ | with_reducible refine Fresh.drew ?_ | with_reducible refine Fresh.setCell ?_ ?_ _ | with_reducible refine Fresh.trans ?_ (by assumption) | (simp; done) | (simp; omega))), Fq.trans (by (repeat' first | with_reducible exact Fresh.refl _ | with_reducible assumption | with_reducible refine Fresh.alloc ?_ _ _ | with_reducible refine Fresh.drew ?_ | with_reducible refine Fresh.setCell ?_ ?_ _ | with_reducible refine Fresh.trans ?_ (by assumption) | (simp; done) | (simp; omega)))⟩
            case measure => simp [intOf]
          · have e1 : wr.cell? ⟨B2, 1, none⟩ = some (.int .i64 85) := Tq.c 1 (by decide)
            go_wp2_with (first | (go_at_call 13; ((with_reducible refine (D85.out _).mono ?_); rintro e w2 ⟨rfl, h2⟩; obtain ⟨c2, f2⟩ := h2.cells; have z20 := h2.z (n := p7) (by first | assumption | (simp; done) | (simp; assumption) | (simp; omega)))) | (go_at_call 13; ((with_reducible refine (D86u.out _).mono ?_); rintro e w3 ⟨rfl, h3⟩; obtain ⟨c3, f3⟩ := h3.cells; have z30 := h3.z (n := p7) (by first | assumption | (simp; done) | (simp; assumption) | (simp; omega)); have z31 := h3.z (n := w2.heap.size) (by first | assumption | (simp; done) | (simp; assumption) | (simp; omega)))))
            go_roundw
            case rel => exact ⟨2, by omega, by omega, rfl, Tq.later (by (repeat' first | with_reducible exact Fresh.refl _ | with_reducible assumption | with_reducible refine Fresh.alloc ?_ _ _ | with_reducible refine Fresh.drew ?_ | with_reducible refine Fresh.setCell ?_ ?_ _ | with_reducible refine Fresh.trans ?_ (by assumption) | (simp; done) | (simp; omega))), Fq.trans (by (repeat' first | with_reducible exact Fresh.refl _ | with_reducible assumption | with_reducible refine Fresh.alloc ?_ _ _ | with_reducible refine Fresh.drew ?_ | with_reducible refine Fresh.setCell ?_ ?_ _ | with_reducible refine Fresh.trans ?_ (by assumption) | (simp; done) | (simp; omega)))⟩
            case measure => simp [intOf]
          · have F := F.trans Fq
            go_wp2_with (first | (go_at_call 13; ((with_reducible refine (D87.out _).mono ?_); rintro e w2 ⟨rfl, h2⟩; obtain ⟨c2, f2⟩ := h2.cells; have z20 := h2.z (n := p7) (by first | assumption | (simp; done) | (simp; assumption) | (simp; omega)))) | (go_at_call 13; ((with_reducible refine (D91.out _).mono ?_); rintro e w3 ⟨rfl, h3⟩; obtain ⟨c3, f3⟩ := h3.cells; have z30 := h3.z (n := p7) (by first | assumption | (simp; done) | (simp; assumption) | (simp; omega)); have z31 := h3.z (n := w2.heap.size) (by first | assumption | (simp; done) | (simp; assumption) | (simp; omega)))))
            go_returns
            exact ⟨rfl, F.trans (by (repeat' first | with_reducible exact Fresh.refl _ | with_reducible assumption | with_reducible refine Fresh.alloc ?_ _ _ | with_reducible refine Fresh.drew ?_ | with_reducible refine Fresh.setCell ?_ ?_ _ | with_reducible refine Fresh.trans ?_ (by assumption) | (simp; done) | (simp; omega)))⟩

theorem own : ownKnob Try.prog.godebug = none := by kernel_rfl
set_option maxRecDepth 100000 in
theorem lifted (os : Os) (started : os.Started) (H : Type) (enc : TypeId × Value → H) :
    ReturnsInHanded {} Try.checked os 7 .any (Rows.machLawsSpec.pre6 enc Try.prog Try.f7 Rows.machLawsRow.domain false) (Rows.machLawsSpec.post enc Try.prog Try.f7 false true false false) := by
  refine returnsInHanded_of_change (C := Try.checked) own started (by kernel_rfl) Try.func7
    (ChangeSpec.witness6 (enc := enc) (C := Try.checked) false ⟨#[], #[.int .i64 0, .int .i64 0], []⟩ 8 (by kernel_rfl) (by kernel_rfl) (by kernel_rfl) (by kernel_rfl)) ?_
  intro W base args ds gs before hval0 hW hcnd _
  have hval : ∀ (j : Nat) t v, Try.f7.params[j]? = some t → args[j]? = some v → Value.okWide Try.prog W .any base t v := hval0
  have hW' := hW
  obtain ⟨p, q, hA0, hV, rfl, hfz, hnd⟩ := hW
  have hA : DataW.TrodAll enc Try.prog W 0 (fun _ => true) true Try.f7.params.toList args.toList ds p := hA0
  rw [Try.params7] at hA hval
  obtain ⟨v0, vs0, d0, ds0, p0, q0, hargs, rfl, rfl, h0, r0⟩ := trodAll_cons hA
  obtain ⟨v1, vs1, d1, ds1, p1, q1, rfl, rfl, rfl, h1, r1⟩ := trodAll_cons r0
  obtain ⟨rfl, rfl, rfl⟩ := trodAll_nil r1
  obtain rfl : args = #[v0, v1] := by cases args; simp_all
  obtain ⟨rfl, rfl⟩ := trodVars_none hV
  obtain ⟨a0, rfl, rfl, rfl, w0⟩ := open_int Try.underlying2 (hval 0 2 v0 rfl rfl) h0
  obtain ⟨a1, rfl, rfl, rfl, w1⟩ := open_int Try.underlying2 (hval 1 2 v1 rfl rfl) h1
  clear hA0 hval0
  simp only [List.append_nil] at hW'
  refine (walk a0 a1 W).mono fun e W' ⟨he, hg⟩ => ?_
  subst he
  exact ⟨_, rfl, post_of_same (pa := []) (pv := []) hW' (fun _ _ _ => (trodAll_cons_mk (shut_bool Try.underlying4 _) trodAll_mk0)) (fun sp _ => (trodAll_cons_mk (shut_int Try.underlying2 w0) (trodAll_cons_mk (shut_int Try.underlying2 w1) trodAll_mk0))) (fun _ _ => rfl) rfl
    (hg.below.frame _) hg.froz (ok_one (by kernel_rfl) rfl (okWide_bool_mk Try.underlying4 _))⟩

theorem over : Rows.machLawsRow.holds Try.pinned (OpenSpec.ofChange Rows.machLawsSpec) :=
  OpenClaim.holds_of_wide 7 Try.f7 rfl rfl rfl rfl rfl rfl rfl ⟨rfl, rfl, rfl, rfl, rfl⟩ rfl rfl rfl rfl rfl (by kernel_rfl) Try.func7 (by kernel_rfl)
    (of_decide_eq_true (by kernel_rfl)) (by unfold Func.isWrapper; first | (rw [if_pos (by decide +kernel)]; kernel_rfl) | (rw [if_neg (by decide +kernel)]; exact ⟨rfl, rfl⟩))
    (fun os started H enc _ => lifted os started H enc)

theorem proved : Rows.MachLawsSaid :=
  over
#print axioms proved
end Go.Proofs.Ytopnbdblgfjnpaa.machLaws
