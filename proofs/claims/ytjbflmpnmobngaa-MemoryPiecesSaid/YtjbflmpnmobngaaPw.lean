/- The walk of the statement on pointers that are broken into. -/
import Derived.Test.YtjbflmpnmobngaaMz
import Derived.Deep.CutBlock
import Derived.Deep.QuietTactic
import Derived.BigQuiet
import Derived.StillTailTactics
namespace Go.Proofs.Ytjbflmpnmobngaa.memoryPieces
set_option linter.unusedSimpArgs false
set_option linter.unusedVariables false
open Go.RowKit

theorem kvL_2 {c : Int} (h : kindL c = 2) : kvL c = 2 := by simp [kvL, h]
theorem kvL_3 {c : Int} (h : kindL c = 3) : kvL c = 3 := by simp [kvL, h]
theorem kvL_1 {c : Int} (h : ¬ kindL c = 2) (h' : ¬ kindL c = 3) : kvL c = 1 := by simp [kvL, h, h']
theorem int_7 (w : World) : Calls Try.prog 24 #[.int .i32 7] w fun e w' => e = .returned (.agg #[.int .i64 1, .int .u64 7, .int .i64 0]) ∧ Fresh w w' := int_f 7 7 (by decide) w
theorem long_7 (w : World) : Calls Try.prog 29 #[.int .i64 7] w fun e w' => e = .returned (.agg #[.int .i64 2, .int .u64 7, .int .i64 0]) ∧ Fresh w w' := by
  refine (long_x 7 w).mono ?_
  rintro e w' ⟨rfl, rfl⟩
  exact ⟨rfl, (Fresh.refl _).alloc _ _⟩
theorem dbl_7 (w : World) : Calls Try.prog 30 #[.int .u64 7] w fun e w' => e = .returned (.agg #[.int .i64 3, .int .u64 7, .int .i64 0]) ∧ Fresh w w' := by
  refine (dbl_x 7 w).mono ?_
  rintro e w' ⟨rfl, rfl⟩
  exact ⟨rfl, (Fresh.refl _).alloc _ _⟩
theorem mod24 (x : Int) : 0 ≤ wrap64 ((IntKind.u64.wrap x).tmod 24) ∧ wrap64 ((IntKind.u64.wrap x).tmod 24) < 24 := by
  have : 0 ≤ IntKind.u64.wrap x := by simp [IntKind.wrap, IntKind.bits, IntKind.signed]; omega
  rw [Int.tmod_eq_emod_of_nonneg this]
  unfold wrap64; omega
theorem ptr_a (a : Int) (h0 : 0 ≤ a) (h1 : a < 24) (w : World) : Calls Try.prog 23 #[.int .i64 1, .int .i64 a] w fun e w' => e = .returned (.agg #[.int .i64 4, .int .u64 a, .int .i64 1]) ∧ Fresh w w' := by
  refine ptr_f 1 a 4 a 1 ?_ w
  have : IntKind.u64.wrap a = a := by simp [IntKind.wrap, IntKind.bits, IntKind.signed]; omega
  simp [ptrL, this]
theorem wrapU (x : Int) : 0 ≤ IntKind.u64.wrap x := by simp [IntKind.wrap, IntKind.bits, IntKind.signed]; omega
theorem eq32 (U b : Int) (w : World) : (binOp .eql 32 (.agg #[.int .i64 4, .int .u64 U, .int .i64 b]) (.agg #[.int .i64 4, .int .u64 U, .int .i64 b])).run Try.prog w = .ok (.bool true) w := by
  simp [go_sem]
theorem m1 {α : Type} {a : α} {l : List α} : a ∈ a :: l := List.mem_cons_self ..
theorem m2 {α : Type} {a b : α} {l : List α} : b ∈ a :: b :: l := by simp
theorem m3 {α : Type} {a b c : α} {l : List α} : c ∈ a :: b :: c :: l := by simp
theorem m4 {α : Type} {a b c d : α} {l : List α} : d ∈ a :: b :: c :: d :: l := by simp
/-- A value of the caller's own at a slot. -/
def AtV (s : Value) (B : Nat) : Prop := s = .pointer (some ⟨B, 0, none⟩)

set_option maxRecDepth 100000 in
set_option maxHeartbeats 40000000 in
theorem walk (a0 a1 a2 a3 : Int) (hk : Key a0) (w : World) : Calls Try.prog 6 #[.int .i64 a0, .int .i64 a1, .int .i64 a2, .int .i64 a3] w fun e w' => e = .returned (.bool true) ∧ Fresh w w' := by
  have HK := Lib.hid hk
  clear hk
  go_enter Try.func6, Try.ntmps6
  go_wp2_with fail
  go_at_call 7; refine (fixed_any _).mono ?_; rintro e w0 ⟨rfl, h0⟩; have hf0 := h0
  go_wp2_with fail
  go_at_call 8; refine (Env.new w0).mono ?_; rintro e w1 ⟨M, rfl, E1⟩; replace E1 := Lib.hid E1
  go_wp2_with fail
  go_at_call 9; refine (E1.out.alloc 24 1 rfl (by unfold maxLen; omega) (by omega) (by omega) (by omega)).mono ?_; rintro e w2 ⟨rfl, E2⟩; replace E2 := Lib.hid E2; clear E1
  go_wp2_with fail
  go_at_call 23; refine (ptr_any a0 a1 _).mono ?_; rintro e w3 ⟨rfl, h3⟩; have E3 := Lib.hid (E2.out.fresh h3)
  clear E2
  go_upto_if 30 with fail
  go_cut [11] (fun s11 wx => ∃ B U blk, AtV s11 B ∧ Env w0 wx M 1 1 S1 [(B, 4, U, blk)] ∧ (0 ≤ U ∧ Key blk))
  case first =>
    go_wp2_with (go_at_call 23; refine (ptr_f 1 a1 4 (IntKind.u64.wrap a1) 1 (by simp [ptrL]) _).mono ?_; rintro e w4 ⟨rfl, h4⟩; obtain ⟨c4, f4⟩ := h4.cells; have z4 := h4.z (n := w3.heap.size) (by first | assumption | (simp; done) | (simp; assumption) | (simp; omega)))
    · go_meet
      refine ⟨_, IntKind.u64.wrap a1, 1, rfl, E3.out.push (w' := _) (by (repeat' first | with_reducible exact Fresh.refl _ | with_reducible assumption | with_reducible refine Fresh.alloc ?_ _ _ | with_reducible refine Fresh.drew ?_ | with_reducible refine Fresh.setCell ?_ ?_ _ | with_reducible refine Fresh.trans ?_ (by assumption) | (simp; done) | (simp; omega))) (Nat.le_refl _) ⟨by simp; exact z4, by simp [go_sem, *], by simp [go_sem, *], by simp [go_sem, *]⟩, wrapU a1, k1⟩
    · go_meet
      have hne : (a0 == 0) = false := by assumption
      have e : ptrL a0 a1 = (4, IntKind.u64.wrap a1, a0) := by simp [ptrL]; simpa using hne
      refine ⟨_, IntKind.u64.wrap a1, a0, rfl, E3.out.push (w' := _) (by (repeat' first | with_reducible exact Fresh.refl _ | with_reducible assumption | with_reducible refine Fresh.alloc ?_ _ _ | with_reducible refine Fresh.drew ?_ | with_reducible refine Fresh.setCell ?_ ?_ _ | with_reducible refine Fresh.trans ?_ (by assumption) | (simp; done) | (simp; omega))) (Nat.le_refl _) (by have := Own.new' w3 (ptrL a0 a1).1 (ptrL a0 a1).2.1 (ptrL a0 a1).2.2; rw [e] at this ⊢; exact this), wrapU a1, HK.out⟩
  case rest =>
    obtain ⟨B, U, blk, rfl, E, hU, hkb⟩ := hcut
    clear E3
    replace E := Lib.hid E.drew
    have HB := Lib.hid (And.intro hU hkb)
    clear hU hkb
    go_wp2_with fail
    go_region_held3 (fun w' => w'.cell? ⟨B, 0, none⟩ = some (.int .i64 4) ∧ w'.cell? ⟨B, 1, none⟩ = some (.int .u64 U) ∧ w'.cell? ⟨B, 2, none⟩ = some (.int .i64 blk)) (exact ⟨(E.out.c (List.mem_singleton.2 rfl)).c0, (E.out.c (List.mem_singleton.2 rfl)).c1, (E.out.c (List.mem_singleton.2 rfl)).c2⟩) (first | (go_at_call 23; refine (ptr_f 1 8 4 8 1 (by decide +kernel) _).mono ?_; rintro e w5 ⟨rfl, h5⟩; have E := Lib.hid (E.out.fresh h5)) | (go_at_call 17; refine (E.out.store (by unfold maxLen; omega) _ _ _ _ _ _ _ k1 HB.out.1 true (s2_ok U blk).1).mono ?_; rintro e w6 ⟨rfl, E6⟩; have E : Hid (Env w0 w6 M 2 1 (S2 U blk) [(B, 4, U, blk)]) := Lib.hid E6))
    go_wp2_with fail
    go_at_call 23; refine (ptr_f 1 8 4 8 1 (by decide +kernel) _).mono ?_; rintro e w7 ⟨rfl, h7⟩; have E7 := Lib.hid (E.out.fresh h7)
    go_wp2_with fail
    go_at_call 15; refine (E7.out.load _ _ _ _ k1 4 U blk true (s2_ok U blk).2).mono ?_; rintro e w8 ⟨rfl, E8⟩; replace E8 := Lib.hid E8; clear E7
    go_wp2_with fail
    have E9 := Lib.hid (E8.out.add 4 U blk)
    clear E8
    go_at_call 26; refine (size_any a2 _).mono ?_; rintro e w' ⟨rfl, rfl⟩
    go_wp2_with fail
    go_at_call 24; refine (int_7 _).mono ?_; rintro e w10 ⟨rfl, h10⟩; have E10 := Lib.hid (E9.out.fresh h10); clear E9
    go_wp2_with fail
    go_at_call 25; refine (kind_any a2 _).mono ?_; rintro e w' ⟨rfl, rfl⟩
    go_upto_block 0 with fail
    go_cut [15] (fun s15 wx => ∃ C, AtV s15 C ∧ Env w0 wx M 2 1 (S2 U blk) [(C, kvL a2, 7, 0), (w8.heap.size, 4, U, blk), (B, 4, U, blk)])
    case first =>
      go_wp2_with (first | (go_at_call 29; refine (long_7 _).mono ?_; rintro e w11 ⟨rfl, h11⟩; obtain ⟨c4, f4⟩ := h11.cells; have z4 := h11.z (n := w10.heap.size) (by first | assumption | (simp; done) | (simp; assumption) | (simp; omega))) | (go_at_call 30; refine (dbl_7 _).mono ?_; rintro e w11 ⟨rfl, h11⟩; obtain ⟨c4, f4⟩ := h11.cells; have z4 := h11.z (n := w10.heap.size) (by first | assumption | (simp; done) | (simp; assumption) | (simp; omega))))
      · go_meet
        have hk : (kindL a2 == 2) = true := by assumption
        exact ⟨_, rfl, E10.out.push (w' := _) (by (repeat' first | with_reducible exact Fresh.refl _ | with_reducible assumption | with_reducible refine Fresh.alloc ?_ _ _ | with_reducible refine Fresh.drew ?_ | with_reducible refine Fresh.setCell ?_ ?_ _ | with_reducible refine Fresh.trans ?_ (by assumption) | (simp; done) | (simp; omega))) (Nat.le_refl _) (by rw [kvL_2 (by simpa using hk)]; exact ⟨by simp; exact z4, by simp [go_sem, *], by simp [go_sem, *], by simp [go_sem, *]⟩)⟩
      · go_meet
        have hk : (kindL a2 == 3) = true := by assumption
        exact ⟨_, rfl, E10.out.push (w' := _) (by (repeat' first | with_reducible exact Fresh.refl _ | with_reducible assumption | with_reducible refine Fresh.alloc ?_ _ _ | with_reducible refine Fresh.drew ?_ | with_reducible refine Fresh.setCell ?_ ?_ _ | with_reducible refine Fresh.trans ?_ (by assumption) | (simp; done) | (simp; omega))) (Nat.le_refl _) (by rw [kvL_3 (by simpa using hk)]; exact ⟨by simp; exact z4, by simp [go_sem, *], by simp [go_sem, *], by simp [go_sem, *]⟩)⟩
      · go_meet
        have hk : (kindL a2 == 2) = false := by assumption
        have hk' : (kindL a2 == 3) = false := by assumption
        exact ⟨_, rfl, by rw [kvL_1 (by simpa using hk) (by simpa using hk')]; exact E10.out.add 1 7 0⟩
    case rest =>
      obtain ⟨C, rfl, E11⟩ := hcut
      replace E11 := Lib.hid E11
      clear E E10 h10 h7 h5
      generalize w8.heap.size = D at *
      obtain ⟨b0, b1⟩ := mod24 a3
      generalize wrap64 ((IntKind.u64.wrap a3).tmod 24) = a at *
      have HP : Hid ((S3 U blk a2 a).1 = storedB (sizeL a2) a ∧ loadS (S3 U blk a2 a).2 6 4 8 1 = (nowV U blk (sizeL a2) a, true)) := Lib.hid (pieces U blk a2 a b0 b1)
      have hz := sizeL_cases a2
      generalize sizeL a2 = n at *
      have hn0 : 0 ≤ n := by omega
      have hn8 : n ≤ 8 := by omega
      have hw := way n a hn0
      clear hz h0 h3
      have H0 := Lib.hid hf0
      rcases hw with h | ⟨h, h2⟩ | ⟨h, h2, h3⟩ | ⟨h, h2, h3, h4⟩ | ⟨h, h2, h3, h4, h5⟩ | ⟨h, h2, h3, h4, h5, h6⟩ | ⟨h, h2, h3, h4, h5, h6, h7⟩ | ⟨h6, h7⟩
      · subst h
        have HA : Hid (0 ≤ (a : Int) ∧ (a : Int) < 24) := Lib.hid ⟨b0, b1⟩
        have HT : Hid ((S3 U blk a2 a).1 = false) := Lib.hid (HP.out.1.trans (by simp [storedB, *]; try first | omega | exact ⟨h2, h3⟩))
        have HV : Hid (loadS (S3 U blk a2 a).2 6 4 8 1 = ((4, U, blk), true)) := Lib.hid (HP.out.2.trans (by simp [nowV, storedB, *]; try first | omega | exact ⟨h2, h3, h5⟩))
        have E := Lib.hid E11.out.drew
        clear E11 HP
        go_wp2_with fail
        go_region_held3 (fun w' => w'.cell? ⟨C, 0, none⟩ = some (.int .i64 (kvL a2)) ∧ w'.cell? ⟨C, 1, none⟩ = some (.int .u64 7) ∧ w'.cell? ⟨C, 2, none⟩ = some (.int .i64 0)) (exact ⟨(E.out.c m1).c0, (E.out.c m1).c1, (E.out.c m1).c2⟩) (first | (go_at_call 23; refine (ptr_a a HA.out.1 HA.out.2 _).mono ?_; rintro e w12 ⟨rfl, h12⟩; have E := Lib.hid (E.out.fresh h12)) | (go_at_call 17; refine (E.out.store (by unfold maxLen; omega) _ _ _ _ _ _ _ k1 (by omega) false HT.out).mono ?_; rintro e w13 ⟨rfl, E13⟩; have E : Hid (Env w0 w13 M 3 1 (S3 U blk a2 a).2 [(C, kvL a2, 7, 0), (D, 4, U, blk), (B, 4, U, blk)]) := Lib.hid E13))
        go_wp2_with fail
        go_at_call 23; refine (ptr_f 1 8 4 8 1 (by decide +kernel) _).mono ?_; rintro e w14 ⟨rfl, h14⟩; have E14 := Lib.hid (E.out.fresh h14)
        go_wp2_with fail
        go_at_call 15; refine (E14.out.load _ _ _ _ k1 4 U blk true HV.out).mono ?_; rintro e w15 ⟨rfl, E15⟩; replace E15 := Lib.hid E15; clear E14
        have E16 := Lib.hid (E15.out.add 4 U blk)
        have eD := own_cells (E16.out.c m3)
        obtain ⟨eD0, eD1, eD2⟩ := eD
        have eB := own_cells (E16.out.c m4)
        obtain ⟨eB0, eB1, eB2⟩ := eB
        have eN := own_cells (E16.out.c m1)
        obtain ⟨eN0, eN1, eN2⟩ := eN
        clear h14 E15
        go_wp2_with fail
        have heq := eq32 U blk
        go_quiet (fail)
        all_goals (try go_wp2)
        all_goals go_light
        all_goals go_returns
        all_goals first | exact ⟨rfl, H0.out.trans E.out.out⟩ | exact ⟨rfl, ⟨below_drewN (H0.out.trans E16.out.out).below _, fun x => (H0.out.trans E16.out.out).froz x⟩⟩
      · have HA : Hid (0 ≤ (a : Int) ∧ (a : Int) < 24) := Lib.hid ⟨b0, b1⟩
        have HT : Hid ((S3 U blk a2 a).1 = false) := Lib.hid (HP.out.1.trans (by simp [storedB, *]; try first | omega | exact ⟨h2, h3⟩))
        have HV : Hid (loadS (S3 U blk a2 a).2 6 4 8 1 = ((4, U, blk), true)) := Lib.hid (HP.out.2.trans (by simp [nowV, storedB, *]; try first | omega | exact ⟨h2, h3, h5⟩))
        have hq : ((a % n) == 0) = false := by first | (simp; omega) | (simp [*]; done) | (simp [*]; omega)
        have hp : decide (0 < n) = true := by first | (simp; omega) | (simp [*]; done) | (simp [*]; omega)
        have E := Lib.hid E11.out.drew
        clear E11 HP
        go_wp2_with fail
        go_region_held3 (fun w' => w'.cell? ⟨C, 0, none⟩ = some (.int .i64 (kvL a2)) ∧ w'.cell? ⟨C, 1, none⟩ = some (.int .u64 7) ∧ w'.cell? ⟨C, 2, none⟩ = some (.int .i64 0)) (exact ⟨(E.out.c m1).c0, (E.out.c m1).c1, (E.out.c m1).c2⟩) (first | (go_at_call 23; refine (ptr_a a HA.out.1 HA.out.2 _).mono ?_; rintro e w12 ⟨rfl, h12⟩; have E := Lib.hid (E.out.fresh h12)) | (go_at_call 17; refine (E.out.store (by unfold maxLen; omega) _ _ _ _ _ _ _ k1 (by omega) false HT.out).mono ?_; rintro e w13 ⟨rfl, E13⟩; have E : Hid (Env w0 w13 M 3 1 (S3 U blk a2 a).2 [(C, kvL a2, 7, 0), (D, 4, U, blk), (B, 4, U, blk)]) := Lib.hid E13))
        go_wp2_with fail
        go_at_call 23; refine (ptr_f 1 8 4 8 1 (by decide +kernel) _).mono ?_; rintro e w14 ⟨rfl, h14⟩; have E14 := Lib.hid (E.out.fresh h14)
        go_wp2_with fail
        go_at_call 15; refine (E14.out.load _ _ _ _ k1 4 U blk true HV.out).mono ?_; rintro e w15 ⟨rfl, E15⟩; replace E15 := Lib.hid E15; clear E14
        have E16 := Lib.hid (E15.out.add 4 U blk)
        have eD := own_cells (E16.out.c m3)
        obtain ⟨eD0, eD1, eD2⟩ := eD
        have eB := own_cells (E16.out.c m4)
        obtain ⟨eB0, eB1, eB2⟩ := eB
        have eN := own_cells (E16.out.c m1)
        obtain ⟨eN0, eN1, eN2⟩ := eN
        clear h14 E15
        go_wp2_with fail
        have heq := eq32 U blk
        go_quiet (fail)
        all_goals (try go_wp2)
        all_goals go_light
        all_goals go_returns
        all_goals first | exact ⟨rfl, H0.out.trans E.out.out⟩ | exact ⟨rfl, ⟨below_drewN (H0.out.trans E16.out.out).below _, fun x => (H0.out.trans E16.out.out).froz x⟩⟩
      · have HA : Hid (0 ≤ (a : Int) ∧ (a : Int) < 24) := Lib.hid ⟨b0, b1⟩
        have HT : Hid ((S3 U blk a2 a).1 = false) := Lib.hid (HP.out.1.trans (by simp [storedB, *]; try first | omega | exact ⟨h2, h3⟩))
        have HV : Hid (loadS (S3 U blk a2 a).2 6 4 8 1 = ((4, U, blk), true)) := Lib.hid (HP.out.2.trans (by simp [nowV, storedB, *]; try first | omega | exact ⟨h2, h3, h5⟩))
        have hq : ((a % n) == 0) = true := by first | (simp; omega) | (simp [*]; done) | (simp [*]; omega)
        have hp : decide (0 < n) = true := by first | (simp; omega) | (simp [*]; done) | (simp [*]; omega)
        have hr : decide (a + n ≤ 24) = false := by first | (simp; omega) | (simp [*]; done) | (simp [*]; omega)
        have E := Lib.hid E11.out.drew
        clear E11 HP
        go_wp2_with fail
        go_region_held3 (fun w' => w'.cell? ⟨C, 0, none⟩ = some (.int .i64 (kvL a2)) ∧ w'.cell? ⟨C, 1, none⟩ = some (.int .u64 7) ∧ w'.cell? ⟨C, 2, none⟩ = some (.int .i64 0)) (exact ⟨(E.out.c m1).c0, (E.out.c m1).c1, (E.out.c m1).c2⟩) (first | (go_at_call 23; refine (ptr_a a HA.out.1 HA.out.2 _).mono ?_; rintro e w12 ⟨rfl, h12⟩; have E := Lib.hid (E.out.fresh h12)) | (go_at_call 17; refine (E.out.store (by unfold maxLen; omega) _ _ _ _ _ _ _ k1 (by omega) false HT.out).mono ?_; rintro e w13 ⟨rfl, E13⟩; have E : Hid (Env w0 w13 M 3 1 (S3 U blk a2 a).2 [(C, kvL a2, 7, 0), (D, 4, U, blk), (B, 4, U, blk)]) := Lib.hid E13))
        go_wp2_with fail
        go_at_call 23; refine (ptr_f 1 8 4 8 1 (by decide +kernel) _).mono ?_; rintro e w14 ⟨rfl, h14⟩; have E14 := Lib.hid (E.out.fresh h14)
        go_wp2_with fail
        go_at_call 15; refine (E14.out.load _ _ _ _ k1 4 U blk true HV.out).mono ?_; rintro e w15 ⟨rfl, E15⟩; replace E15 := Lib.hid E15; clear E14
        have E16 := Lib.hid (E15.out.add 4 U blk)
        have eD := own_cells (E16.out.c m3)
        obtain ⟨eD0, eD1, eD2⟩ := eD
        have eB := own_cells (E16.out.c m4)
        obtain ⟨eB0, eB1, eB2⟩ := eB
        have eN := own_cells (E16.out.c m1)
        obtain ⟨eN0, eN1, eN2⟩ := eN
        clear h14 E15
        go_wp2_with fail
        have heq := eq32 U blk
        go_quiet (fail)
        all_goals (try go_wp2)
        all_goals go_light
        all_goals go_returns
        all_goals first | exact ⟨rfl, H0.out.trans E.out.out⟩ | exact ⟨rfl, ⟨below_drewN (H0.out.trans E16.out.out).below _, fun x => (H0.out.trans E16.out.out).froz x⟩⟩
      · have HA : Hid (0 ≤ (a : Int) ∧ (a : Int) < 24) := Lib.hid ⟨b0, b1⟩
        have HT : Hid ((S3 U blk a2 a).1 = true) := Lib.hid (HP.out.1.trans (by simp [storedB, *]; try first | omega | exact ⟨h2, h3⟩))
        have HV : Hid (loadS (S3 U blk a2 a).2 6 4 8 1 = ((4, U, blk), true)) := Lib.hid (HP.out.2.trans (by simp [nowV, storedB, *]; try first | omega | exact ⟨h2, h3, h5⟩))
        have hq : ((a % n) == 0) = true := by first | (simp; omega) | (simp [*]; done) | (simp [*]; omega)
        have hp : decide (0 < n) = true := by first | (simp; omega) | (simp [*]; done) | (simp [*]; omega)
        have hr : decide (a + n ≤ 24) = true := by first | (simp; omega) | (simp [*]; done) | (simp [*]; omega)
        have hs : decide (a < 16) = false := by first | (simp; omega) | (simp [*]; done) | (simp [*]; omega)
        have E := Lib.hid E11.out.drew
        clear E11 HP
        go_wp2_with fail
        go_region_held3 (fun w' => w'.cell? ⟨C, 0, none⟩ = some (.int .i64 (kvL a2)) ∧ w'.cell? ⟨C, 1, none⟩ = some (.int .u64 7) ∧ w'.cell? ⟨C, 2, none⟩ = some (.int .i64 0)) (exact ⟨(E.out.c m1).c0, (E.out.c m1).c1, (E.out.c m1).c2⟩) (first | (go_at_call 23; refine (ptr_a a HA.out.1 HA.out.2 _).mono ?_; rintro e w12 ⟨rfl, h12⟩; have E := Lib.hid (E.out.fresh h12)) | (go_at_call 17; refine (E.out.store (by unfold maxLen; omega) _ _ _ _ _ _ _ k1 (by omega) true HT.out).mono ?_; rintro e w13 ⟨rfl, E13⟩; have E : Hid (Env w0 w13 M 3 1 (S3 U blk a2 a).2 [(C, kvL a2, 7, 0), (D, 4, U, blk), (B, 4, U, blk)]) := Lib.hid E13))
        go_wp2_with fail
        go_at_call 23; refine (ptr_f 1 8 4 8 1 (by decide +kernel) _).mono ?_; rintro e w14 ⟨rfl, h14⟩; have E14 := Lib.hid (E.out.fresh h14)
        go_wp2_with fail
        go_at_call 15; refine (E14.out.load _ _ _ _ k1 4 U blk true HV.out).mono ?_; rintro e w15 ⟨rfl, E15⟩; replace E15 := Lib.hid E15; clear E14
        have E16 := Lib.hid (E15.out.add 4 U blk)
        have eD := own_cells (E16.out.c m3)
        obtain ⟨eD0, eD1, eD2⟩ := eD
        have eB := own_cells (E16.out.c m4)
        obtain ⟨eB0, eB1, eB2⟩ := eB
        have eN := own_cells (E16.out.c m1)
        obtain ⟨eN0, eN1, eN2⟩ := eN
        clear h14 E15
        go_wp2_with fail
        have heq := eq32 U blk
        go_quiet (fail)
        all_goals (try go_wp2)
        all_goals go_light
        all_goals go_returns
        all_goals first | exact ⟨rfl, H0.out.trans E.out.out⟩ | exact ⟨rfl, ⟨below_drewN (H0.out.trans E16.out.out).below _, fun x => (H0.out.trans E16.out.out).froz x⟩⟩
      · have HA : Hid (0 ≤ (a : Int) ∧ (a : Int) < 24) := Lib.hid ⟨b0, b1⟩
        have HT : Hid ((S3 U blk a2 a).1 = true) := Lib.hid (HP.out.1.trans (by simp [storedB, *]; try first | omega | exact ⟨h2, h3⟩))
        have HV : Hid (loadS (S3 U blk a2 a).2 6 4 8 1 = ((4, U, blk), true)) := Lib.hid (HP.out.2.trans (by simp [nowV, storedB, *]; try first | omega | exact ⟨h2, h3, h5⟩))
        have hq : ((a % n) == 0) = true := by first | (simp; omega) | (simp [*]; done) | (simp [*]; omega)
        have hp : decide (0 < n) = true := by first | (simp; omega) | (simp [*]; done) | (simp [*]; omega)
        have hr : decide (a + n ≤ 24) = true := by first | (simp; omega) | (simp [*]; done) | (simp [*]; omega)
        have hs : decide (a < 16) = true := by first | (simp; omega) | (simp [*]; done) | (simp [*]; omega)
        have ht : decide (8 < a + n) = false := by first | (simp; omega) | (simp [*]; done) | (simp [*]; omega)
        have E := Lib.hid E11.out.drew
        clear E11 HP
        go_wp2_with fail
        go_region_held3 (fun w' => w'.cell? ⟨C, 0, none⟩ = some (.int .i64 (kvL a2)) ∧ w'.cell? ⟨C, 1, none⟩ = some (.int .u64 7) ∧ w'.cell? ⟨C, 2, none⟩ = some (.int .i64 0)) (exact ⟨(E.out.c m1).c0, (E.out.c m1).c1, (E.out.c m1).c2⟩) (first | (go_at_call 23; refine (ptr_a a HA.out.1 HA.out.2 _).mono ?_; rintro e w12 ⟨rfl, h12⟩; have E := Lib.hid (E.out.fresh h12)) | (go_at_call 17; refine (E.out.store (by unfold maxLen; omega) _ _ _ _ _ _ _ k1 (by omega) true HT.out).mono ?_; rintro e w13 ⟨rfl, E13⟩; have E : Hid (Env w0 w13 M 3 1 (S3 U blk a2 a).2 [(C, kvL a2, 7, 0), (D, 4, U, blk), (B, 4, U, blk)]) := Lib.hid E13))
        go_wp2_with fail
        go_at_call 23; refine (ptr_f 1 8 4 8 1 (by decide +kernel) _).mono ?_; rintro e w14 ⟨rfl, h14⟩; have E14 := Lib.hid (E.out.fresh h14)
        go_wp2_with fail
        go_at_call 15; refine (E14.out.load _ _ _ _ k1 4 U blk true HV.out).mono ?_; rintro e w15 ⟨rfl, E15⟩; replace E15 := Lib.hid E15; clear E14
        have E16 := Lib.hid (E15.out.add 4 U blk)
        have eD := own_cells (E16.out.c m3)
        obtain ⟨eD0, eD1, eD2⟩ := eD
        have eB := own_cells (E16.out.c m4)
        obtain ⟨eB0, eB1, eB2⟩ := eB
        have eN := own_cells (E16.out.c m1)
        obtain ⟨eN0, eN1, eN2⟩ := eN
        clear h14 E15
        go_wp2_with fail
        have heq := eq32 U blk
        go_quiet (fail)
        all_goals (try go_wp2)
        all_goals go_light
        all_goals go_returns
        all_goals first | exact ⟨rfl, H0.out.trans E.out.out⟩ | exact ⟨rfl, ⟨below_drewN (H0.out.trans E16.out.out).below _, fun x => (H0.out.trans E16.out.out).froz x⟩⟩
      · have HA : Hid (0 ≤ (a : Int) ∧ (a : Int) < 24) := Lib.hid ⟨b0, b1⟩
        have HT : Hid ((S3 U blk a2 a).1 = true) := Lib.hid (HP.out.1.trans (by simp [storedB, *]; try first | omega | exact ⟨h2, h3⟩))
        have HV : Hid (loadS (S3 U blk a2 a).2 6 4 8 1 = ((0, 0, 0), true)) := Lib.hid (HP.out.2.trans (by simp [nowV, storedB, *]; try first | omega | exact ⟨h2, h3, h5⟩))
        have hq : ((a % n) == 0) = true := by first | (simp; omega) | (simp [*]; done) | (simp [*]; omega)
        have hp : decide (0 < n) = true := by first | (simp; omega) | (simp [*]; done) | (simp [*]; omega)
        have hr : decide (a + n ≤ 24) = true := by first | (simp; omega) | (simp [*]; done) | (simp [*]; omega)
        have hs : decide (a < 16) = true := by first | (simp; omega) | (simp [*]; done) | (simp [*]; omega)
        have ht : decide (8 < a + n) = true := by first | (simp; omega) | (simp [*]; done) | (simp [*]; omega)
        have hu : (a == 8) = false := by first | (simp; omega) | (simp [*]; done) | (simp [*]; omega)
        have E := Lib.hid E11.out.drew
        clear E11 HP
        go_wp2_with fail
        go_region_held3 (fun w' => w'.cell? ⟨C, 0, none⟩ = some (.int .i64 (kvL a2)) ∧ w'.cell? ⟨C, 1, none⟩ = some (.int .u64 7) ∧ w'.cell? ⟨C, 2, none⟩ = some (.int .i64 0)) (exact ⟨(E.out.c m1).c0, (E.out.c m1).c1, (E.out.c m1).c2⟩) (first | (go_at_call 23; refine (ptr_a a HA.out.1 HA.out.2 _).mono ?_; rintro e w12 ⟨rfl, h12⟩; have E := Lib.hid (E.out.fresh h12)) | (go_at_call 17; refine (E.out.store (by unfold maxLen; omega) _ _ _ _ _ _ _ k1 (by omega) true HT.out).mono ?_; rintro e w13 ⟨rfl, E13⟩; have E : Hid (Env w0 w13 M 3 1 (S3 U blk a2 a).2 [(C, kvL a2, 7, 0), (D, 4, U, blk), (B, 4, U, blk)]) := Lib.hid E13))
        go_wp2_with fail
        go_at_call 23; refine (ptr_f 1 8 4 8 1 (by decide +kernel) _).mono ?_; rintro e w14 ⟨rfl, h14⟩; have E14 := Lib.hid (E.out.fresh h14)
        go_wp2_with fail
        go_at_call 15; refine (E14.out.load _ _ _ _ k1 0 0 0 true HV.out).mono ?_; rintro e w15 ⟨rfl, E15⟩; replace E15 := Lib.hid E15; clear E14
        have E16 := Lib.hid (E15.out.add 0 0 0)
        have eD := own_cells (E16.out.c m3)
        obtain ⟨eD0, eD1, eD2⟩ := eD
        have eB := own_cells (E16.out.c m4)
        obtain ⟨eB0, eB1, eB2⟩ := eB
        have eN := own_cells (E16.out.c m1)
        obtain ⟨eN0, eN1, eN2⟩ := eN
        clear h14 E15
        go_wp2_with fail
        have heq := eq32 U blk
        go_quiet (fail)
        all_goals (try go_wp2)
        all_goals go_light
        all_goals go_returns
        all_goals first | exact ⟨rfl, H0.out.trans E.out.out⟩ | exact ⟨rfl, ⟨below_drewN (H0.out.trans E16.out.out).below _, fun x => (H0.out.trans E16.out.out).froz x⟩⟩
      · subst h6
        have HA : Hid (0 ≤ (8 : Int) ∧ (8 : Int) < 24) := Lib.hid ⟨b0, b1⟩
        have HT : Hid ((S3 U blk a2 8).1 = true) := Lib.hid (HP.out.1.trans (by simp [storedB, *]; try first | omega | exact ⟨h2, h3⟩))
        have HV : Hid (loadS (S3 U blk a2 8).2 6 4 8 1 = ((0, 0, 0), true)) := Lib.hid (HP.out.2.trans (by simp [nowV, storedB, *]; try first | omega | exact ⟨h2, h3, h5⟩))
        have hq : ((8 % n) == 0) = true := by first | (simp; omega) | (simp [*]; done) | (simp [*]; omega)
        have hp : decide (0 < n) = true := by first | (simp; omega) | (simp [*]; done) | (simp [*]; omega)
        have hr : decide (8 + n ≤ 24) = true := by first | (simp; omega) | (simp [*]; done) | (simp [*]; omega)
        have ht : decide (8 < 8 + n) = true := by first | (simp; omega) | (simp [*]; done) | (simp [*]; omega)
        have hv : (n == 8) = false := by first | (simp; omega) | (simp [*]; done) | (simp [*]; omega)
        have E := Lib.hid E11.out.drew
        clear E11 HP
        go_wp2_with fail
        go_region_held3 (fun w' => w'.cell? ⟨C, 0, none⟩ = some (.int .i64 (kvL a2)) ∧ w'.cell? ⟨C, 1, none⟩ = some (.int .u64 7) ∧ w'.cell? ⟨C, 2, none⟩ = some (.int .i64 0)) (exact ⟨(E.out.c m1).c0, (E.out.c m1).c1, (E.out.c m1).c2⟩) (first | (go_at_call 23; refine (ptr_a 8 HA.out.1 HA.out.2 _).mono ?_; rintro e w12 ⟨rfl, h12⟩; have E := Lib.hid (E.out.fresh h12)) | (go_at_call 17; refine (E.out.store (by unfold maxLen; omega) _ _ _ _ _ _ _ k1 (by omega) true HT.out).mono ?_; rintro e w13 ⟨rfl, E13⟩; have E : Hid (Env w0 w13 M 3 1 (S3 U blk a2 8).2 [(C, kvL a2, 7, 0), (D, 4, U, blk), (B, 4, U, blk)]) := Lib.hid E13))
        go_wp2_with fail
        go_at_call 23; refine (ptr_f 1 8 4 8 1 (by decide +kernel) _).mono ?_; rintro e w14 ⟨rfl, h14⟩; have E14 := Lib.hid (E.out.fresh h14)
        go_wp2_with fail
        go_at_call 15; refine (E14.out.load _ _ _ _ k1 0 0 0 true HV.out).mono ?_; rintro e w15 ⟨rfl, E15⟩; replace E15 := Lib.hid E15; clear E14
        have E16 := Lib.hid (E15.out.add 0 0 0)
        have eD := own_cells (E16.out.c m3)
        obtain ⟨eD0, eD1, eD2⟩ := eD
        have eB := own_cells (E16.out.c m4)
        obtain ⟨eB0, eB1, eB2⟩ := eB
        have eN := own_cells (E16.out.c m1)
        obtain ⟨eN0, eN1, eN2⟩ := eN
        clear h14 E15
        go_wp2_with fail
        have heq := eq32 U blk
        go_quiet (fail)
        all_goals (try go_wp2)
        all_goals go_light
        all_goals go_returns
        all_goals first | exact ⟨rfl, H0.out.trans E.out.out⟩ | exact ⟨rfl, ⟨below_drewN (H0.out.trans E16.out.out).below _, fun x => (H0.out.trans E16.out.out).froz x⟩⟩
      · subst h6 h7
        have HA : Hid (0 ≤ (8 : Int) ∧ (8 : Int) < 24) := Lib.hid ⟨b0, b1⟩
        have HT : Hid ((S3 U blk a2 8).1 = true) := Lib.hid (HP.out.1.trans (by simp [storedB, *]; try first | omega | exact ⟨h2, h3⟩))
        have HV : Hid (loadS (S3 U blk a2 8).2 6 4 8 1 = ((2, 7, 0), true)) := Lib.hid (HP.out.2.trans (by simp [nowV, storedB, *]; try first | omega | exact ⟨h2, h3, h5⟩))
        have E := Lib.hid E11.out.drew
        clear E11 HP
        go_wp2_with fail
        go_region_held3 (fun w' => w'.cell? ⟨C, 0, none⟩ = some (.int .i64 (kvL a2)) ∧ w'.cell? ⟨C, 1, none⟩ = some (.int .u64 7) ∧ w'.cell? ⟨C, 2, none⟩ = some (.int .i64 0)) (exact ⟨(E.out.c m1).c0, (E.out.c m1).c1, (E.out.c m1).c2⟩) (first | (go_at_call 23; refine (ptr_a 8 HA.out.1 HA.out.2 _).mono ?_; rintro e w12 ⟨rfl, h12⟩; have E := Lib.hid (E.out.fresh h12)) | (go_at_call 17; refine (E.out.store (by unfold maxLen; omega) _ _ _ _ _ _ _ k1 (by omega) true HT.out).mono ?_; rintro e w13 ⟨rfl, E13⟩; have E : Hid (Env w0 w13 M 3 1 (S3 U blk a2 8).2 [(C, kvL a2, 7, 0), (D, 4, U, blk), (B, 4, U, blk)]) := Lib.hid E13))
        go_wp2_with fail
        go_at_call 23; refine (ptr_f 1 8 4 8 1 (by decide +kernel) _).mono ?_; rintro e w14 ⟨rfl, h14⟩; have E14 := Lib.hid (E.out.fresh h14)
        go_wp2_with fail
        go_at_call 15; refine (E14.out.load _ _ _ _ k1 2 7 0 true HV.out).mono ?_; rintro e w15 ⟨rfl, E15⟩; replace E15 := Lib.hid E15; clear E14
        have E16 := Lib.hid (E15.out.add 2 7 0)
        have eD := own_cells (E16.out.c m3)
        obtain ⟨eD0, eD1, eD2⟩ := eD
        have eB := own_cells (E16.out.c m4)
        obtain ⟨eB0, eB1, eB2⟩ := eB
        have eN := own_cells (E16.out.c m1)
        obtain ⟨eN0, eN1, eN2⟩ := eN
        clear h14 E15
        go_wp2_with fail
        have heq := eq32 U blk
        have E := Lib.hid E16.out.drew
        clear eD0 eD1 eD2 eB0 eB1 eB2 eN0 eN1 eN2 E16
        generalize w15.alloc (.cells #[.int .i64 2, .int .u64 7, .int .i64 0] 32) = X at *
        generalize w15.heap.size = G at *
        refine wp_region_held_drew (S := (fun w' => w'.cell? ⟨G, 0, none⟩ = some (.int .i64 2) ∧ w'.cell? ⟨G, 1, none⟩ = some (.int .u64 7) ∧ w'.cell? ⟨G, 2, none⟩ = some (.int .i64 0))) (by kernel_rfl) (own_cells (E.out.c m1)) (fun hHeld => ?_)
        refine wpAnyH_take (i := 0) (oi := ?o0) (v := ?v0) ?h0 (by kernel_rfl) (by kernel_rfl) (by kernel_rfl) ?q0 ?y0 (by assumption) ?r0
        case h0 => simp only [List.getElem?_toArray, List.getElem?_cons_zero, List.getElem?_cons_succ]; rfl
        case y0 => (refine Or.inl ⟨by rfl, ?_⟩; intro w hSw; (try dsimp only at hSw); go_simp; (try with_reducible rfl))
        case q0 => exact fun _ _ _ h => h
        try simp only [Act.put, List.setIfInBounds_toArray, List.set_cons_zero, List.set_cons_succ]
        refine wpAnyH_take (i := 1) (oi := ?o1) (v := ?v1) ?h1 (by kernel_rfl) (by kernel_rfl) (by kernel_rfl) ?q1 ?y1 (by assumption) ?r1
        case h1 => simp only [List.getElem?_toArray, List.getElem?_cons_zero, List.getElem?_cons_succ]; rfl
        case y1 => (refine Or.inl ⟨by rfl, ?_⟩; intro w hSw; (try dsimp only at hSw); go_simp; (try with_reducible rfl))
        case q1 => exact fun _ _ _ h => h
        try simp only [Act.put, List.setIfInBounds_toArray, List.set_cons_zero, List.set_cons_succ]
        refine wpAnyH_take (i := 2) (oi := ?o2) (v := ?v2) ?h2 (by kernel_rfl) (by kernel_rfl) (by kernel_rfl) ?q2 ?y2 (by assumption) ?r2
        case h2 => simp only [List.getElem?_toArray, List.getElem?_cons_zero, List.getElem?_cons_succ]; rfl
        case y2 => (refine Or.inl ⟨by rfl, ?_⟩; intro w hSw; (try dsimp only at hSw); go_simp; (try with_reducible rfl))
        case q2 => exact fun _ _ _ h => h
        try simp only [Act.put, List.setIfInBounds_toArray, List.set_cons_zero, List.set_cons_succ]
        refine wpAnyH_take (i := 3) (oi := ?o3) (v := undef) ?h3 (by kernel_rfl) (by kernel_rfl) (by kernel_rfl) ?q3 ?y3 (by assumption) ?r3
        case h3 => simp only [List.getElem?_toArray, List.getElem?_cons_zero, List.getElem?_cons_succ]; rfl
        case y3 => exact Or.inr ⟨by rfl, rfl⟩
        case q3 => exact fun _ _ _ h => h
        try simp only [Act.put, List.setIfInBounds_toArray, List.set_cons_zero, List.set_cons_succ]
        refine wpAnyH_take (i := 4) (oi := ?o4) (v := undef) ?h4 (by kernel_rfl) (by kernel_rfl) (by kernel_rfl) ?q4 ?y4 (by assumption) ?r4
        case h4 => simp only [List.getElem?_toArray, List.getElem?_cons_zero, List.getElem?_cons_succ]; rfl
        case y4 => exact Or.inr ⟨by rfl, rfl⟩
        case q4 => exact fun _ _ _ h => h
        try simp only [Act.put, List.setIfInBounds_toArray, List.set_cons_zero, List.set_cons_succ]
        refine wpAnyH_take (i := 5) (oi := ?o5) (v := undef) ?h5 (by kernel_rfl) (by kernel_rfl) (by kernel_rfl) ?q5 ?y5 (by assumption) ?r5
        case h5 => simp only [List.getElem?_toArray, List.getElem?_cons_zero, List.getElem?_cons_succ]; rfl
        case y5 => exact Or.inr ⟨by rfl, rfl⟩
        case q5 => exact fun _ _ _ h => h
        try simp only [Act.put, List.setIfInBounds_toArray, List.set_cons_zero, List.set_cons_succ]
        refine wpAnyH_take (i := 6) (oi := ?o6) (v := ?v6) ?h6 (by kernel_rfl) (by kernel_rfl) (by kernel_rfl) ?q6 ?y6 (by assumption) ?r6
        case h6 => simp only [List.getElem?_toArray, List.getElem?_cons_zero, List.getElem?_cons_succ]; rfl
        case y6 => (refine Or.inl ⟨by rfl, ?_⟩; intro w hSw; (try dsimp only at hSw); go_simp; (try with_reducible rfl))
        case q6 => exact fun _ _ _ h => h
        try simp only [Act.put, List.setIfInBounds_toArray, List.set_cons_zero, List.set_cons_succ]
        refine wpAnyH_take (i := 7) (oi := ?o7) (v := ?v7) ?h7 (by kernel_rfl) (by kernel_rfl) (by kernel_rfl) ?q7 ?y7 (by assumption) ?r7
        case h7 => simp only [List.getElem?_toArray, List.getElem?_cons_zero, List.getElem?_cons_succ]; rfl
        case y7 => (refine Or.inl ⟨by rfl, ?_⟩; intro w hSw; (try dsimp only at hSw); go_simp; (try with_reducible rfl))
        case q7 => exact fun _ _ _ h => h
        try simp only [Act.put, List.setIfInBounds_toArray, List.set_cons_zero, List.set_cons_succ]
        refine wpAnyH_take (i := 8) (oi := ?o8) (v := ?v8) ?h8 (by kernel_rfl) (by kernel_rfl) (by kernel_rfl) ?q8 ?y8 (by assumption) ?r8
        case h8 => simp only [List.getElem?_toArray, List.getElem?_cons_zero, List.getElem?_cons_succ]; rfl
        case y8 => (refine Or.inl ⟨by rfl, ?_⟩; intro w hSw; (try dsimp only at hSw); go_simp; (try with_reducible rfl))
        case q8 => exact fun _ _ _ h => h
        try simp only [Act.put, List.setIfInBounds_toArray, List.set_cons_zero, List.set_cons_succ]
        refine wpAnyH_take (i := 9) (oi := ?o9) (v := ?v9) ?h9 (by kernel_rfl) (by kernel_rfl) (by kernel_rfl) ?q9 ?y9 (by assumption) ?r9
        case h9 => simp only [List.getElem?_toArray, List.getElem?_cons_zero, List.getElem?_cons_succ]; rfl
        case y9 => (refine Or.inl ⟨by rfl, ?_⟩; intro w hSw; (try dsimp only at hSw); go_simp; (try with_reducible rfl))
        case q9 => exact fun _ _ _ h => h
        try simp only [Act.put, List.setIfInBounds_toArray, List.set_cons_zero, List.set_cons_succ]
        refine wpAnyH_take (i := 10) (oi := ?o10) (v := ?v10) ?h10 (by kernel_rfl) (by kernel_rfl) (by kernel_rfl) ?q10 ?y10 (by assumption) ?r10
        case h10 => simp only [List.getElem?_toArray, List.getElem?_cons_zero, List.getElem?_cons_succ]; rfl
        case y10 => (refine Or.inl ⟨by rfl, ?_⟩; intro w hSw; (try dsimp only at hSw); go_simp; (try with_reducible rfl))
        case q10 => exact fun _ _ _ h => h
        try simp only [Act.put, List.setIfInBounds_toArray, List.set_cons_zero, List.set_cons_succ]
        refine wpAnyH_take (i := 11) (oi := ?o11) (v := ?v11) ?h11 (by kernel_rfl) (by kernel_rfl) (by kernel_rfl) ?q11 ?y11 (by assumption) ?r11
        case h11 => simp only [List.getElem?_toArray, List.getElem?_cons_zero, List.getElem?_cons_succ]; rfl
        case y11 => (refine Or.inl ⟨by rfl, ?_⟩; intro w hSw; (try dsimp only at hSw); go_simp; (try with_reducible rfl))
        case q11 => exact fun _ _ _ h => h
        try simp only [Act.put, List.setIfInBounds_toArray, List.set_cons_zero, List.set_cons_succ]
        refine wpAnyH_take (i := 12) (oi := ?o12) (v := ?v12) ?h12 (by kernel_rfl) (by kernel_rfl) (by kernel_rfl) ?q12 ?y12 (by assumption) ?r12
        case h12 => simp only [List.getElem?_toArray, List.getElem?_cons_zero, List.getElem?_cons_succ]; rfl
        case y12 => (refine Or.inl ⟨by rfl, ?_⟩; intro w hSw; (try dsimp only at hSw); go_simp; (try with_reducible rfl))
        case q12 => exact fun _ _ _ h => h
        try simp only [Act.put, List.setIfInBounds_toArray, List.set_cons_zero, List.set_cons_succ]
        refine wpAnyH_take (i := 13) (oi := ?o13) (v := ?v13) ?h13 (by kernel_rfl) (by kernel_rfl) (by kernel_rfl) ?q13 ?y13 (by assumption) ?r13
        case h13 => simp only [List.getElem?_toArray, List.getElem?_cons_zero, List.getElem?_cons_succ]; rfl
        case y13 => (refine Or.inl ⟨by rfl, ?_⟩; intro w hSw; (try dsimp only at hSw); go_simp; (try with_reducible rfl))
        case q13 => exact fun _ _ _ h => h
        try simp only [Act.put, List.setIfInBounds_toArray, List.set_cons_zero, List.set_cons_succ]
        refine wpAnyH_take (i := 14) (oi := ?o14) (v := undef) ?h14 (by kernel_rfl) (by kernel_rfl) (by kernel_rfl) ?q14 ?y14 (by assumption) ?r14
        case h14 => simp only [List.getElem?_toArray, List.getElem?_cons_zero, List.getElem?_cons_succ]; rfl
        case y14 => exact Or.inr ⟨by rfl, rfl⟩
        case q14 => exact fun _ _ _ h => h
        try simp only [Act.put, List.setIfInBounds_toArray, List.set_cons_zero, List.set_cons_succ]
        refine wpAnyH_take (i := 15) (oi := ?o15) (v := undef) ?h15 (by kernel_rfl) (by kernel_rfl) (by kernel_rfl) ?q15 ?y15 (by assumption) ?r15
        case h15 => simp only [List.getElem?_toArray, List.getElem?_cons_zero, List.getElem?_cons_succ]; rfl
        case y15 => exact Or.inr ⟨by rfl, rfl⟩
        case q15 => exact fun _ _ _ h => h
        try simp only [Act.put, List.setIfInBounds_toArray, List.set_cons_zero, List.set_cons_succ]
        refine wpAnyH_take (i := 16) (oi := ?o16) (v := undef) ?h16 (by kernel_rfl) (by kernel_rfl) (by kernel_rfl) ?q16 ?y16 (by assumption) ?r16
        case h16 => simp only [List.getElem?_toArray, List.getElem?_cons_zero, List.getElem?_cons_succ]; rfl
        case y16 => exact Or.inr ⟨by rfl, rfl⟩
        case q16 => exact fun _ _ _ h => h
        try simp only [Act.put, List.setIfInBounds_toArray, List.set_cons_zero, List.set_cons_succ]
        refine wpAnyH_take (i := 17) (oi := ?o17) (v := ?v17) ?h17 (by kernel_rfl) (by kernel_rfl) (by kernel_rfl) ?q17 ?y17 (by assumption) ?r17
        case h17 => simp only [List.getElem?_toArray, List.getElem?_cons_zero, List.getElem?_cons_succ]; rfl
        case y17 => (refine Or.inl ⟨by rfl, ?_⟩; intro w hSw; (try dsimp only at hSw); go_simp; (try with_reducible rfl))
        case q17 => exact fun _ _ _ h => h
        try simp only [Act.put, List.setIfInBounds_toArray, List.set_cons_zero, List.set_cons_succ]
        refine wpAnyH_take (i := 18) (oi := ?o18) (v := ?v18) ?h18 (by kernel_rfl) (by kernel_rfl) (by kernel_rfl) ?q18 ?y18 (by assumption) ?r18
        case h18 => simp only [List.getElem?_toArray, List.getElem?_cons_zero, List.getElem?_cons_succ]; rfl
        case y18 => (refine Or.inl ⟨by rfl, ?_⟩; intro w hSw; (try dsimp only at hSw); go_simp; (try with_reducible rfl))
        case q18 => exact fun _ _ _ h => h
        try simp only [Act.put, List.setIfInBounds_toArray, List.set_cons_zero, List.set_cons_succ]
        refine wpAnyH_take (i := 19) (oi := ?o19) (v := ?v19) ?h19 (by kernel_rfl) (by kernel_rfl) (by kernel_rfl) ?q19 ?y19 (by assumption) ?r19
        case h19 => simp only [List.getElem?_toArray, List.getElem?_cons_zero, List.getElem?_cons_succ]; rfl
        case y19 => (refine Or.inl ⟨by rfl, ?_⟩; intro w hSw; (try dsimp only at hSw); go_simp; (try with_reducible rfl))
        case q19 => exact fun _ _ _ h => h
        try simp only [Act.put, List.setIfInBounds_toArray, List.set_cons_zero, List.set_cons_succ]
        refine wpAnyH_take (i := 20) (oi := ?o20) (v := ?v20) ?h20 (by kernel_rfl) (by kernel_rfl) (by kernel_rfl) ?q20 ?y20 (by assumption) ?r20
        case h20 => simp only [List.getElem?_toArray, List.getElem?_cons_zero, List.getElem?_cons_succ]; rfl
        case y20 => (refine Or.inl ⟨by rfl, ?_⟩; intro w hSw; (try dsimp only at hSw); go_simp; (try with_reducible rfl))
        case q20 => exact fun _ _ _ h => h
        try simp only [Act.put, List.setIfInBounds_toArray, List.set_cons_zero, List.set_cons_succ]
        refine wpAnyH_take (i := 21) (oi := ?o21) (v := ?v21) ?h21 (by kernel_rfl) (by kernel_rfl) (by kernel_rfl) ?q21 ?y21 (by assumption) ?r21
        case h21 => simp only [List.getElem?_toArray, List.getElem?_cons_zero, List.getElem?_cons_succ]; rfl
        case y21 => (refine Or.inl ⟨by rfl, ?_⟩; intro w hSw; (try dsimp only at hSw); go_simp; (try with_reducible rfl))
        case q21 => exact fun _ _ _ h => h
        try simp only [Act.put, List.setIfInBounds_toArray, List.set_cons_zero, List.set_cons_succ]
        refine wpAnyH_take (i := 22) (oi := ?o22) (v := ?v22) ?h22 (by kernel_rfl) (by kernel_rfl) (by kernel_rfl) ?q22 ?y22 (by assumption) ?r22
        case h22 => simp only [List.getElem?_toArray, List.getElem?_cons_zero, List.getElem?_cons_succ]; rfl
        case y22 => (refine Or.inl ⟨by rfl, ?_⟩; intro w hSw; (try dsimp only at hSw); go_simp; (try with_reducible rfl))
        case q22 => exact fun _ _ _ h => h
        try simp only [Act.put, List.setIfInBounds_toArray, List.set_cons_zero, List.set_cons_succ]
        refine wpAnyH_ready (rs := [23]) (by kernel_rfl) (by simp) ?_
        refine AllReadyH.cons rfl (fun K hK => ?_) ?_
        go_simp
        go_at_call 29; refine (long_7 _).mono ?_; rintro e w17 ⟨rfl, h17⟩; have E := Lib.hid (E.out.fresh h17)
        go_wp2_with fail
        refine hK.out _ _ (own_cells (E.out.c m1)) (fun hHeld => ?_)
        clear hK K
        try simp only [Act.put, List.setIfInBounds_toArray, List.set_cons_zero, List.set_cons_succ]
        refine wpAnyH_take (i := 24) (oi := ?o24) (v := ?v24) ?h24 (by kernel_rfl) (by kernel_rfl) (by kernel_rfl) ?q24 ?y24 (by assumption) ?r24
        case h24 => simp only [List.getElem?_toArray, List.getElem?_cons_zero, List.getElem?_cons_succ]; rfl
        case y24 => (refine Or.inl ⟨by rfl, ?_⟩; intro w hSw; (try dsimp only at hSw); go_simp; (try with_reducible rfl))
        case q24 => exact fun _ _ _ h => h
        try simp only [Act.put, List.setIfInBounds_toArray, List.set_cons_zero, List.set_cons_succ]
        refine wpAnyH_take (i := 25) (oi := ?o25) (v := ?v25) ?h25 (by kernel_rfl) (by kernel_rfl) (by kernel_rfl) ?q25 ?y25 (by assumption) ?r25
        case h25 => simp only [List.getElem?_toArray, List.getElem?_cons_zero, List.getElem?_cons_succ]; rfl
        case y25 => (refine Or.inl ⟨by rfl, ?_⟩; intro w hSw; (try dsimp only at hSw); go_simp; (try with_reducible rfl))
        case q25 => exact fun _ _ _ h => h
        try simp only [Act.put, List.setIfInBounds_toArray, List.set_cons_zero, List.set_cons_succ]
        refine wpAnyH_take (i := 26) (oi := ?o26) (v := ?v26) ?h26 (by kernel_rfl) (by kernel_rfl) (by kernel_rfl) ?q26 ?y26 (by assumption) ?r26
        case h26 => simp only [List.getElem?_toArray, List.getElem?_cons_zero, List.getElem?_cons_succ]; rfl
        case y26 => (refine Or.inl ⟨by rfl, ?_⟩; intro w hSw; (try dsimp only at hSw); go_simp; (try with_reducible rfl))
        case q26 => exact fun _ _ _ h => h
        try simp only [Act.put, List.setIfInBounds_toArray, List.set_cons_zero, List.set_cons_succ]
        refine wpAnyH_take (i := 27) (oi := ?o27) (v := ?v27) ?h27 (by kernel_rfl) (by kernel_rfl) (by kernel_rfl) ?q27 ?y27 (by assumption) ?r27
        case h27 => simp only [List.getElem?_toArray, List.getElem?_cons_zero, List.getElem?_cons_succ]; rfl
        case y27 => (refine Or.inl ⟨by rfl, ?_⟩; intro w hSw; (try dsimp only at hSw); go_simp; (try with_reducible rfl))
        case q27 => exact fun _ _ _ h => h
        try simp only [Act.put, List.setIfInBounds_toArray, List.set_cons_zero, List.set_cons_succ]
        refine wpAnyH_done (by kernel_rfl) ?_ _
        rotate_left 1
        exact AllReadyH.nil
        all_goals (try go_wp2)
        all_goals go_light
        all_goals go_returns
        all_goals first | exact ⟨rfl, H0.out.trans E.out.out⟩ | exact ⟨rfl, ⟨below_drewN (H0.out.trans E16.out.out).below _, fun x => (H0.out.trans E16.out.out).froz x⟩⟩
end Go.Proofs.Ytjbflmpnmobngaa.memoryPieces
