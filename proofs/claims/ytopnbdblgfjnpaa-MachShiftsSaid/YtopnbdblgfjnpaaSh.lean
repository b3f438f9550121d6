/-
  A shift up is a product by a power of two, a shift down a quotient rounded down. No condition.
-/
import Derived.Test.YtopnbdblgfjnpaaSa
import Derived.Deep.DeepCutAuto
import Derived.Deep.QuietTactic
import Derived.BigQuiet
import Derived.WalkSmall
import Derived.ProofKit
import Derived.OpenShut
import Derived.Lib.SmallJoins
namespace Go.Proofs.Ytopnbdblgfjnpaa.machShifts
set_option linter.unusedSimpArgs false
set_option linter.unusedVariables false
open Go.ChangeShapes Go.WideShapes Go.ChangeAt Go.RowKit Go.Joins

def At (s : Value) (w : World) (n : Int) : Prop := ∃ p : Nat, s = .pointer (some ⟨p, 0, none⟩) ∧ Own w p 1 n 0
theorem At.later {s : Value} {w w' : World} {n : Int} (h : At s w n) (hf : Fresh w w') : At s w' n := by
  obtain ⟨p, hp, ho⟩ := h; exact ⟨p, hp, ho.later hf⟩

theorem own_cells {w : World} {B : Nat} {k n b : Int} (h : Own w B k n b) : w.cell? ⟨B, 0, none⟩ = some (.int .i64 k) ∧ w.cell? ⟨B, 1, none⟩ = some (.int .u64 n) ∧ w.cell? ⟨B, 2, none⟩ = some (.int .i64 b) := ⟨h.c0, h.c1, h.c2⟩
theorem int_n (v n : Int) (h : v % 4294967296 = n) (w : World) :
    Calls Try.prog 28 #[.int .i32 v] w fun e w' => e = .returned (.agg #[.int .i64 1, .int .u64 n, .int .i64 0]) ∧ w.alloc (.cells #[.int .i64 1, .int .u64 n, .int .i64 0] 24) = w' := by
  subst h; exact int_x v w
theorem Own.put {w : World} {B : Nat} {k n b x y z : Int} (h : Own w B x y z) : Own (((w.setCell ⟨B, 0, none⟩ (.int .i64 k)).setCell ⟨B, 1, none⟩ (.int .u64 n)).setCell ⟨B, 2, none⟩ (.int .i64 b)) B k n b := by
  obtain ⟨hs, h0, h1, h2⟩ := h
  exact ⟨by simpa using hs, by simp [go_sem, *], by simp [go_sem, *], by simp [go_sem, *]⟩
theorem Own.new1 (w : World) (c : Array Value) (t : TypeId) (k n b : Int) : Own ((w.alloc (.cells c t)).alloc (.cells #[.int .i64 k, .int .u64 n, .int .i64 b] 24)) (w.heap.size + 1) k n b := by
  have h := Own.new (w.alloc (.cells c t)) k n b
  simpa using h
theorem At.mk {w : World} {p : Nat} {n : Int} (h : Own w p 1 n 0) : At (.pointer (some ⟨p, 0, none⟩)) w n := ⟨p, rfl, h⟩
set_option maxRecDepth 100000 in
set_option maxHeartbeats 8000000 in
theorem walk (a0 a1 : Int) (w : World) : Calls Try.prog 9 #[.int .i64 a0, .int .i64 a1] w fun e w' => e = .returned (.bool true) ∧ Fresh w w' := by
  have b0 := (n_facts a1).1
  have b1 := (n_facts a1).2
  go_enter Try.func9, Try.ntmps9
  go_wp2_with (go_at_call 10; refine (fixed_any _).mono ?_; rintro e w1 ⟨rfl, h1⟩)
  generalize wrap64 ((IntKind.u64.wrap a1).tmod 31) = N at *
  go_upto_region 4 with fail
  go_cut [5, 6] (fun s5 s6 wx => At s5 wx (IntKind.i32.wrap a0 % 4294967296) ∧ At s6 wx (IntKind.i32.wrap (2 ^ N.toNat) % 4294967296) ∧ Fresh w wx)
  case first =>
    go_region_held3 (fun w' => True) (trivial)
      ((go_at_call 28; refine (int_x _ _).mono ?_; rintro e w' ⟨rfl, rfl⟩))
    all_goals (go_wp2_with fail; go_meet)
    all_goals exact ⟨At.mk ⟨by first | (simp; done) | (simp; omega), by simp [go_sem, *], by simp [go_sem, *], by simp [go_sem, *]⟩, At.mk ⟨by first | (simp; done) | (simp; omega), by simp [go_sem, *], by simp [go_sem, *], by simp [go_sem, *]⟩, by (repeat' first | with_reducible exact Fresh.refl _ | with_reducible assumption | with_reducible refine Fresh.alloc ?_ _ _ | with_reducible refine Fresh.drew ?_ | with_reducible refine Fresh.setCell ?_ ?_ _ | with_reducible refine Fresh.trans ?_ (by assumption) | (simp; done) | (simp; omega))⟩
  case rest =>
    obtain ⟨⟨p5, rfl, o5⟩, ⟨p6, rfl, o6⟩, hf⟩ := hcut
    clear h1
    have hX : 0 ≤ (IntKind.i32.wrap a0 % 4294967296) := Int.emod_nonneg _ (by decide)
    have hX' : (IntKind.i32.wrap a0 % 4294967296) < 4294967296 := Int.emod_lt_of_pos _ (by decide)
    have hP := pow_facts N b0 b1
    have eP : IntKind.i32.wrap (2 ^ N.toNat) % 4294967296 = 2 ^ N.toNat := by
      simp [IntKind.wrap, IntKind.bits, IntKind.signed]; omega
    rw [eP] at o6
    clear eP
    have eN : IntKind.i32.wrap N % 4294967296 = N := by
      simp [IntKind.wrap, IntKind.bits, IntKind.signed]; omega
    generalize (IntKind.i32.wrap a0 % 4294967296) = X at *
    generalize wc = W0 at *
    have hp0 : (0 : Int) ≤ 2 ^ N.toNat := by omega
    have hp1 : (2 : Int) ^ N.toNat < 4294967296 := by omega
    have hS : 0 ≤ wrap32 X / 2 ^ N.toNat % 4294967296 := Int.emod_nonneg _ (by decide)
    have hS' : wrap32 X / 2 ^ N.toNat % 4294967296 < 4294967296 := Int.emod_lt_of_pos _ (by decide)
    have hB : 0 ≤ (wrap32 X / 2 ^ N.toNat % 4294967296) * 2 ^ N.toNat % 4294967296 := Int.emod_nonneg _ (by decide)
    have hB' : (wrap32 X / 2 ^ N.toNat % 4294967296) * 2 ^ N.toNat % 4294967296 < 4294967296 := Int.emod_lt_of_pos _ (by decide)
    have hDN := div_range X (2 ^ N.toNat) hX hX' hP.1
    have hp0 : (0 : Int) ≤ 2 ^ N.toNat := by omega
    have hp1 : (2 : Int) ^ N.toNat < 4294967296 := by omega
    have hS : 0 ≤ wrap32 X / 2 ^ N.toNat % 4294967296 := Int.emod_nonneg _ (by decide)
    have hS' : wrap32 X / 2 ^ N.toNat % 4294967296 < 4294967296 := Int.emod_lt_of_pos _ (by decide)
    have hB : 0 ≤ (wrap32 X / 2 ^ N.toNat % 4294967296) * 2 ^ N.toNat % 4294967296 := Int.emod_nonneg _ (by decide)
    have hB' : (wrap32 X / 2 ^ N.toNat % 4294967296) * 2 ^ N.toNat % 4294967296 < 4294967296 := Int.emod_lt_of_pos _ (by decide)
    have hDN := div_range X (2 ^ N.toNat) hX hX' hP.1
    have hp0 : (0 : Int) ≤ 2 ^ N.toNat := by omega
    have hp1 : (2 : Int) ^ N.toNat < 4294967296 := by omega
    have hS : 0 ≤ wrap32 X / 2 ^ N.toNat % 4294967296 := Int.emod_nonneg _ (by decide)
    have hS' : wrap32 X / 2 ^ N.toNat % 4294967296 < 4294967296 := Int.emod_lt_of_pos _ (by decide)
    have hB : 0 ≤ (wrap32 X / 2 ^ N.toNat % 4294967296) * 2 ^ N.toNat % 4294967296 := Int.emod_nonneg _ (by decide)
    have hB' : (wrap32 X / 2 ^ N.toNat % 4294967296) * 2 ^ N.toNat % 4294967296 < 4294967296 := Int.emod_lt_of_pos _ (by decide)
    have hDN := div_range X (2 ^ N.toNat) hX hX' hP.1
    have hp0 : (0 : Int) ≤ 2 ^ N.toNat := by omega
    have hp1 : (2 : Int) ^ N.toNat < 4294967296 := by omega
    have hS : 0 ≤ wrap32 X / 2 ^ N.toNat % 4294967296 := Int.emod_nonneg _ (by decide)
    have hS' : wrap32 X / 2 ^ N.toNat % 4294967296 < 4294967296 := Int.emod_lt_of_pos _ (by decide)
    have hB : 0 ≤ (wrap32 X / 2 ^ N.toNat % 4294967296) * 2 ^ N.toNat % 4294967296 := Int.emod_nonneg _ (by decide)
    have hB' : (wrap32 X / 2 ^ N.toNat % 4294967296) * 2 ^ N.toNat % 4294967296 < 4294967296 := Int.emod_lt_of_pos _ (by decide)
    have hDN := div_range X (2 ^ N.toNat) hX hX' hP.1
    have hp0 : (0 : Int) ≤ 2 ^ N.toNat := by omega
    have hp1 : (2 : Int) ^ N.toNat < 4294967296 := by omega
    have hS : 0 ≤ wrap32 X / 2 ^ N.toNat % 4294967296 := Int.emod_nonneg _ (by decide)
    have hS' : wrap32 X / 2 ^ N.toNat % 4294967296 < 4294967296 := Int.emod_lt_of_pos _ (by decide)
    have hB : 0 ≤ (wrap32 X / 2 ^ N.toNat % 4294967296) * 2 ^ N.toNat % 4294967296 := Int.emod_nonneg _ (by decide)
    have hB' : (wrap32 X / 2 ^ N.toNat % 4294967296) * 2 ^ N.toNat % 4294967296 < 4294967296 := Int.emod_lt_of_pos _ (by decide)
    have hDN := div_range X (2 ^ N.toNat) hX hX' hP.1
    go_upto_region 5 with fail
    go_cut [7] (fun s7 wx => At s7 wx (X * 2 ^ N.toNat % 4294967296) ∧ Fresh W0 wx)
    case first =>
      go_region_held3 (fun w' => w'.cell? ⟨p5, 0, none⟩ = some (.int .i64 1) ∧ w'.cell? ⟨p5, 1, none⟩ = some (.int .u64 X) ∧ w'.cell? ⟨p5, 2, none⟩ = some (.int .i64 0)) (exact own_cells (o5.later (by (repeat' first | with_reducible exact Fresh.refl _ | with_reducible assumption | with_reducible refine Fresh.alloc ?_ _ _ | with_reducible refine Fresh.drew ?_ | with_reducible refine Fresh.setCell ?_ ?_ _ | with_reducible refine Fresh.trans ?_ (by assumption) | (simp; done) | (simp; omega)))))
        (first | (go_at_call 28; refine (int_n _ _ eN _).mono ?_; rintro e w' ⟨rfl, rfl⟩) | (go_at_call 11; refine (eval2_lit _ _ _ _ _ _ _ _ _ _ _ hX b0 (sh_up _ _ hX hX' b0 b1) _).mono ?_; rintro e w2 ⟨rfl, h2⟩; obtain ⟨c2, f2⟩ := h2.cells; try (have z2a := h2.z (n := W0.heap.size) (by first | assumption | (simp; done) | (simp; omega))); try (have z2b := h2.z (n := W0.heap.size + 1) (by first | assumption | (simp; done) | (simp; omega)))))
      all_goals (go_wp2_with fail; go_meet)
      all_goals first | exact ⟨At.mk ⟨by first | (simp; done) | (simp; omega) | assumption, by simp [go_sem, *], by simp [go_sem, *], by simp [go_sem, *]⟩, by (repeat' first | with_reducible exact Fresh.refl _ | with_reducible assumption | with_reducible refine Fresh.alloc ?_ _ _ | with_reducible refine Fresh.drew ?_ | with_reducible refine Fresh.setCell ?_ ?_ _ | with_reducible refine Fresh.trans ?_ (by assumption) | (simp; done) | (simp; omega))⟩ | exact ⟨At.mk (Own.put ((Own.new W0 0 0 0).later (by (repeat' first | with_reducible exact Fresh.refl _ | with_reducible assumption | with_reducible refine Fresh.alloc ?_ _ _ | with_reducible refine Fresh.drew ?_ | with_reducible refine Fresh.setCell ?_ ?_ _ | with_reducible refine Fresh.trans ?_ (by assumption) | (simp; done) | (simp; omega))))), by (repeat' first | with_reducible exact Fresh.refl _ | with_reducible assumption | with_reducible refine Fresh.alloc ?_ _ _ | with_reducible refine Fresh.drew ?_ | with_reducible refine Fresh.setCell ?_ ?_ _ | with_reducible refine Fresh.trans ?_ (by assumption) | (simp; done) | (simp; omega))⟩ | exact ⟨At.mk (Own.put ((Own.new1 W0 #[.int .i64 1, .int .u64 N, .int .i64 0] 24 0 0 0).later (by (repeat' first | with_reducible exact Fresh.refl _ | with_reducible assumption | with_reducible refine Fresh.alloc ?_ _ _ | with_reducible refine Fresh.drew ?_ | with_reducible refine Fresh.setCell ?_ ?_ _ | with_reducible refine Fresh.trans ?_ (by assumption) | (simp; done) | (simp; omega))))), by (repeat' first | with_reducible exact Fresh.refl _ | with_reducible assumption | with_reducible refine Fresh.alloc ?_ _ _ | with_reducible refine Fresh.drew ?_ | with_reducible refine Fresh.setCell ?_ ?_ _ | with_reducible refine Fresh.trans ?_ (by assumption) | (simp; done) | (simp; omega))⟩
    case rest =>
      obtain ⟨⟨p7, rfl, o7⟩, hf7⟩ := hcut
      have o5 := o5.later hf7
      have o6 := o6.later hf7
      have hf := hf.trans hf7
      clear hf7
      generalize wc = W1 at *
      go_upto_region 6 with fail
      go_cut [9] (fun s9 wx => At s9 wx (X * 2 ^ N.toNat % 4294967296) ∧ Fresh W1 wx)
      case first =>
        obtain ⟨a5, b5, d5⟩ := own_cells o5
        obtain ⟨a6, b6, d6⟩ := own_cells o6
        obtain ⟨a7, b7, d7⟩ := own_cells o7
        go_wp2_with (go_at_call 11; refine (eval2_lit _ _ _ _ _ _ _ _ _ _ _ hX hp0 (sh_mul _ _ hX hX' hp0 hp1) _).mono ?_; rintro e w2 ⟨rfl, h2⟩)
        all_goals go_meet
        all_goals exact ⟨At.mk ⟨by first | (simp; done) | (simp; omega) | assumption, by simp [go_sem], by simp [go_sem], by simp [go_sem]⟩, by (repeat' first | with_reducible exact Fresh.refl _ | with_reducible assumption | with_reducible refine Fresh.alloc ?_ _ _ | with_reducible refine Fresh.drew ?_ | with_reducible refine Fresh.setCell ?_ ?_ _ | with_reducible refine Fresh.trans ?_ (by assumption) | (simp; done) | (simp; omega))⟩
      case rest =>
        obtain ⟨⟨p9, rfl, o9⟩, hf9⟩ := hcut
        have o5 := o5.later hf9
        have o6 := o6.later hf9
        have o7 := o7.later hf9
        have hf := hf.trans hf9
        clear hf9
        generalize wc = W2 at *
        go_upto_region 7 with fail
        go_cut [11] (fun s11 wx => At s11 wx (X / 2 ^ N.toNat) ∧ Fresh W2 wx)
        case first =>
          go_region_held3 (fun w' => w'.cell? ⟨p5, 0, none⟩ = some (.int .i64 1) ∧ w'.cell? ⟨p5, 1, none⟩ = some (.int .u64 X) ∧ w'.cell? ⟨p5, 2, none⟩ = some (.int .i64 0)) (exact own_cells (o5.later (by (repeat' first | with_reducible exact Fresh.refl _ | with_reducible assumption | with_reducible refine Fresh.alloc ?_ _ _ | with_reducible refine Fresh.drew ?_ | with_reducible refine Fresh.setCell ?_ ?_ _ | with_reducible refine Fresh.trans ?_ (by assumption) | (simp; done) | (simp; omega)))))
            (first | (go_at_call 28; refine (int_n _ _ eN _).mono ?_; rintro e w' ⟨rfl, rfl⟩) | (go_at_call 11; refine (eval2_lit _ _ _ _ _ _ _ _ _ _ _ hX b0 (sh_down _ _ hX hX' b0 b1) _).mono ?_; rintro e w2 ⟨rfl, h2⟩; obtain ⟨c2, f2⟩ := h2.cells; try (have z2a := h2.z (n := W2.heap.size) (by first | assumption | (simp; done) | (simp; omega))); try (have z2b := h2.z (n := W2.heap.size + 1) (by first | assumption | (simp; done) | (simp; omega)))))
          all_goals (go_wp2_with fail; go_meet)
          all_goals first | exact ⟨At.mk ⟨by first | (simp; done) | (simp; omega) | assumption, by simp [go_sem, *], by simp [go_sem, *], by simp [go_sem, *]⟩, by (repeat' first | with_reducible exact Fresh.refl _ | with_reducible assumption | with_reducible refine Fresh.alloc ?_ _ _ | with_reducible refine Fresh.drew ?_ | with_reducible refine Fresh.setCell ?_ ?_ _ | with_reducible refine Fresh.trans ?_ (by assumption) | (simp; done) | (simp; omega))⟩ | exact ⟨At.mk (Own.put ((Own.new W2 0 0 0).later (by (repeat' first | with_reducible exact Fresh.refl _ | with_reducible assumption | with_reducible refine Fresh.alloc ?_ _ _ | with_reducible refine Fresh.drew ?_ | with_reducible refine Fresh.setCell ?_ ?_ _ | with_reducible refine Fresh.trans ?_ (by assumption) | (simp; done) | (simp; omega))))), by (repeat' first | with_reducible exact Fresh.refl _ | with_reducible assumption | with_reducible refine Fresh.alloc ?_ _ _ | with_reducible refine Fresh.drew ?_ | with_reducible refine Fresh.setCell ?_ ?_ _ | with_reducible refine Fresh.trans ?_ (by assumption) | (simp; done) | (simp; omega))⟩ | exact ⟨At.mk (Own.put ((Own.new1 W2 #[.int .i64 1, .int .u64 N, .int .i64 0] 24 0 0 0).later (by (repeat' first | with_reducible exact Fresh.refl _ | with_reducible assumption | with_reducible refine Fresh.alloc ?_ _ _ | with_reducible refine Fresh.drew ?_ | with_reducible refine Fresh.setCell ?_ ?_ _ | with_reducible refine Fresh.trans ?_ (by assumption) | (simp; done) | (simp; omega))))), by (repeat' first | with_reducible exact Fresh.refl _ | with_reducible assumption | with_reducible refine Fresh.alloc ?_ _ _ | with_reducible refine Fresh.drew ?_ | with_reducible refine Fresh.setCell ?_ ?_ _ | with_reducible refine Fresh.trans ?_ (by assumption) | (simp; done) | (simp; omega))⟩
        case rest =>
          obtain ⟨⟨p11, rfl, o11⟩, hf11⟩ := hcut
          have o5 := o5.later hf11
          have o6 := o6.later hf11
          have o7 := o7.later hf11
          have o9 := o9.later hf11
          have hf := hf.trans hf11
          clear hf11
          generalize wc = W3 at *
          go_upto_region 8 with fail
          go_cut [13] (fun s13 wx => At s13 wx (X / 2 ^ N.toNat) ∧ Fresh W3 wx)
          case first =>
            obtain ⟨a5, b5, d5⟩ := own_cells o5
            obtain ⟨a6, b6, d6⟩ := own_cells o6
            obtain ⟨a7, b7, d7⟩ := own_cells o7
            obtain ⟨a9, b9, d9⟩ := own_cells o9
            obtain ⟨a11, b11, d11⟩ := own_cells o11
            go_wp2_with (go_at_call 11; refine (eval2_lit _ _ _ _ _ _ _ _ _ _ _ hX hp0 (sh_div _ _ hX hX' hP.1 hp1) _).mono ?_; rintro e w2 ⟨rfl, h2⟩)
            all_goals go_meet
            all_goals exact ⟨At.mk ⟨by first | (simp; done) | (simp; omega) | assumption, by simp [go_sem], by simp [go_sem], by simp [go_sem]⟩, by (repeat' first | with_reducible exact Fresh.refl _ | with_reducible assumption | with_reducible refine Fresh.alloc ?_ _ _ | with_reducible refine Fresh.drew ?_ | with_reducible refine Fresh.setCell ?_ ?_ _ | with_reducible refine Fresh.trans ?_ (by assumption) | (simp; done) | (simp; omega))⟩
          case rest =>
            obtain ⟨⟨p13, rfl, o13⟩, hf13⟩ := hcut
            have o5 := o5.later hf13
            have o6 := o6.later hf13
            have o7 := o7.later hf13
            have o9 := o9.later hf13
            have o11 := o11.later hf13
            have hf := hf.trans hf13
            clear hf13
            generalize wc = W4 at *
            go_upto_region 9 with fail
            go_cut [15] (fun s15 wx => At s15 wx (wrap32 X / 2 ^ N.toNat % 4294967296) ∧ Fresh W4 wx)
            case first =>
              go_region_held3 (fun w' => w'.cell? ⟨p5, 0, none⟩ = some (.int .i64 1) ∧ w'.cell? ⟨p5, 1, none⟩ = some (.int .u64 X) ∧ w'.cell? ⟨p5, 2, none⟩ = some (.int .i64 0)) (exact own_cells (o5.later (by (repeat' first | with_reducible exact Fresh.refl _ | with_reducible assumption | with_reducible refine Fresh.alloc ?_ _ _ | with_reducible refine Fresh.drew ?_ | with_reducible refine Fresh.setCell ?_ ?_ _ | with_reducible refine Fresh.trans ?_ (by assumption) | (simp; done) | (simp; omega)))))
                (first | (go_at_call 28; refine (int_n _ _ eN _).mono ?_; rintro e w' ⟨rfl, rfl⟩) | (go_at_call 11; refine (eval2_lit _ _ _ _ _ _ _ _ _ _ _ hX b0 (sh_shr _ _ hX hX' b0 b1) _).mono ?_; rintro e w2 ⟨rfl, h2⟩; obtain ⟨c2, f2⟩ := h2.cells; try (have z2a := h2.z (n := W4.heap.size) (by first | assumption | (simp; done) | (simp; omega))); try (have z2b := h2.z (n := W4.heap.size + 1) (by first | assumption | (simp; done) | (simp; omega)))))
              all_goals (go_wp2_with fail; go_meet)
              all_goals first | exact ⟨At.mk ⟨by first | (simp; done) | (simp; omega) | assumption, by simp [go_sem, *], by simp [go_sem, *], by simp [go_sem, *]⟩, by (repeat' first | with_reducible exact Fresh.refl _ | with_reducible assumption | with_reducible refine Fresh.alloc ?_ _ _ | with_reducible refine Fresh.drew ?_ | with_reducible refine Fresh.setCell ?_ ?_ _ | with_reducible refine Fresh.trans ?_ (by assumption) | (simp; done) | (simp; omega))⟩ | exact ⟨At.mk (Own.put ((Own.new W4 0 0 0).later (by (repeat' first | with_reducible exact Fresh.refl _ | with_reducible assumption | with_reducible refine Fresh.alloc ?_ _ _ | with_reducible refine Fresh.drew ?_ | with_reducible refine Fresh.setCell ?_ ?_ _ | with_reducible refine Fresh.trans ?_ (by assumption) | (simp; done) | (simp; omega))))), by (repeat' first | with_reducible exact Fresh.refl _ | with_reducible assumption | with_reducible refine Fresh.alloc ?_ _ _ | with_reducible refine Fresh.drew ?_ | with_reducible refine Fresh.setCell ?_ ?_ _ | with_reducible refine Fresh.trans ?_ (by assumption) | (simp; done) | (simp; omega))⟩ | exact ⟨At.mk (Own.put ((Own.new1 W4 #[.int .i64 1, .int .u64 N, .int .i64 0] 24 0 0 0).later (by (repeat' first | with_reducible exact Fresh.refl _ | with_reducible assumption | with_reducible refine Fresh.alloc ?_ _ _ | with_reducible refine Fresh.drew ?_ | with_reducible refine Fresh.setCell ?_ ?_ _ | with_reducible refine Fresh.trans ?_ (by assumption) | (simp; done) | (simp; omega))))), by (repeat' first | with_reducible exact Fresh.refl _ | with_reducible assumption | with_reducible refine Fresh.alloc ?_ _ _ | with_reducible refine Fresh.drew ?_ | with_reducible refine Fresh.setCell ?_ ?_ _ | with_reducible refine Fresh.trans ?_ (by assumption) | (simp; done) | (simp; omega))⟩
            case rest =>
              obtain ⟨⟨p15, rfl, o15⟩, hf15⟩ := hcut
              have o5 := o5.later hf15
              have o6 := o6.later hf15
              have o7 := o7.later hf15
              have o9 := o9.later hf15
              have o11 := o11.later hf15
              have o13 := o13.later hf15
              have hf := hf.trans hf15
              clear hf15
              generalize wc = W5 at *
              go_upto_region 10 with fail
              go_cut [17] (fun s17 wx => At s17 wx ((wrap32 X / 2 ^ N.toNat % 4294967296) * 2 ^ N.toNat % 4294967296) ∧ Fresh W5 wx)
              case first =>
                obtain ⟨a5, b5, d5⟩ := own_cells o5
                obtain ⟨a6, b6, d6⟩ := own_cells o6
                obtain ⟨a7, b7, d7⟩ := own_cells o7
                obtain ⟨a9, b9, d9⟩ := own_cells o9
                obtain ⟨a11, b11, d11⟩ := own_cells o11
                obtain ⟨a13, b13, d13⟩ := own_cells o13
                obtain ⟨a15, b15, d15⟩ := own_cells o15
                go_wp2_with (go_at_call 11; refine (eval2_lit _ _ _ _ _ _ _ _ _ _ _ hS hp0 (sh_mul _ _ hS hS' hp0 hp1) _).mono ?_; rintro e w2 ⟨rfl, h2⟩)
                all_goals go_meet
                all_goals exact ⟨At.mk ⟨by first | (simp; done) | (simp; omega) | assumption, by simp [go_sem], by simp [go_sem], by simp [go_sem]⟩, by (repeat' first | with_reducible exact Fresh.refl _ | with_reducible assumption | with_reducible refine Fresh.alloc ?_ _ _ | with_reducible refine Fresh.drew ?_ | with_reducible refine Fresh.setCell ?_ ?_ _ | with_reducible refine Fresh.trans ?_ (by assumption) | (simp; done) | (simp; omega))⟩
              case rest =>
                obtain ⟨⟨p17, rfl, o17⟩, hf17⟩ := hcut
                have o5 := o5.later hf17
                have o6 := o6.later hf17
                have o7 := o7.later hf17
                have o9 := o9.later hf17
                have o11 := o11.later hf17
                have o13 := o13.later hf17
                have o15 := o15.later hf17
                have hf := hf.trans hf17
                clear hf17
                generalize wc = W6 at *
                go_upto_region 11 with fail
                go_cut [19] (fun s19 wx => At s19 wx ((X - (wrap32 X / 2 ^ N.toNat % 4294967296) * 2 ^ N.toNat % 4294967296) % 4294967296) ∧ Fresh W6 wx)
                case first =>
                  obtain ⟨a5, b5, d5⟩ := own_cells o5
                  obtain ⟨a6, b6, d6⟩ := own_cells o6
                  obtain ⟨a7, b7, d7⟩ := own_cells o7
                  obtain ⟨a9, b9, d9⟩ := own_cells o9
                  obtain ⟨a11, b11, d11⟩ := own_cells o11
                  obtain ⟨a13, b13, d13⟩ := own_cells o13
                  obtain ⟨a15, b15, d15⟩ := own_cells o15
                  obtain ⟨a17, b17, d17⟩ := own_cells o17
                  go_wp2_with (go_at_call 11; refine (eval2_lit _ _ _ _ _ _ _ _ _ _ _ hX hB (sh_sub _ _ hX hX' hB hB') _).mono ?_; rintro e w2 ⟨rfl, h2⟩)
                  all_goals go_meet
                  all_goals exact ⟨At.mk ⟨by first | (simp; done) | (simp; omega) | assumption, by simp [go_sem], by simp [go_sem], by simp [go_sem]⟩, by (repeat' first | with_reducible exact Fresh.refl _ | with_reducible assumption | with_reducible refine Fresh.alloc ?_ _ _ | with_reducible refine Fresh.drew ?_ | with_reducible refine Fresh.setCell ?_ ?_ _ | with_reducible refine Fresh.trans ?_ (by assumption) | (simp; done) | (simp; omega))⟩
                case rest =>
                  obtain ⟨⟨p19, rfl, o19⟩, hf19⟩ := hcut
                  have o5 := o5.later hf19
                  have o6 := o6.later hf19
                  have o7 := o7.later hf19
                  have o9 := o9.later hf19
                  have o11 := o11.later hf19
                  have o13 := o13.later hf19
                  have o15 := o15.later hf19
                  have o17 := o17.later hf19
                  have hf := hf.trans hf19
                  clear hf19
                  generalize wc = W7 at *
                  have hR := rest_lt X (2 ^ N.toNat) hX hX' hP.1 hP.2
                  have hR0 : 0 ≤ (X - (wrap32 X / 2 ^ N.toNat % 4294967296) * 2 ^ N.toNat % 4294967296) % 4294967296 := Int.emod_nonneg _ (by decide)
                  clear o5 o6 o15 o17 hS hS' hB hB' hX hX' hDN
                  generalize (X - (wrap32 X / 2 ^ N.toNat % 4294967296) * 2 ^ N.toNat % 4294967296) % 4294967296 = R at *
                  generalize X * 2 ^ N.toNat % 4294967296 = U at *
                  generalize X / 2 ^ N.toNat = D at *
                  have q1 : R % 4294967296 = R := Int.emod_eq_of_lt hR0 (by omega)
                  have q2 : (2 : Int) ^ N.toNat % 4294967296 = 2 ^ N.toNat := Int.emod_eq_of_lt hp0 hp1
                  have q3 : decide (R < 2 ^ N.toNat) = true := by simpa using hR
                  obtain ⟨a7, b7, d7⟩ := own_cells o7
                  obtain ⟨a9, b9, d9⟩ := own_cells o9
                  obtain ⟨a11, b11, d11⟩ := own_cells o11
                  obtain ⟨a13, b13, d13⟩ := own_cells o13
                  obtain ⟨a19, b19, d19⟩ := own_cells o19
                  go_wp2_with fail
                  go_quiet (fail)
                  go_wp2
                  go_returns
                  exact ⟨rfl, ⟨below_drewN hf.below _, fun x => hf.froz x⟩⟩

theorem own : ownKnob Try.prog.godebug = none := by kernel_rfl
set_option maxRecDepth 100000 in
theorem lifted (os : Os) (started : os.Started) (H : Type) (enc : TypeId × Value → H) :
    ReturnsInHanded {} Try.checked os 9 .any (Rows.machShiftsSpec.pre6 enc Try.prog Try.f9 Rows.machShiftsRow.domain false) (Rows.machShiftsSpec.post enc Try.prog Try.f9 false true false false) := by
  refine returnsInHanded_of_change (C := Try.checked) own started (by kernel_rfl) Try.func9
    (ChangeSpec.witness6 (enc := enc) (C := Try.checked) false ⟨#[], #[.int .i64 0, .int .i64 0], []⟩ 8 (by kernel_rfl) (by kernel_rfl) (by kernel_rfl) (by kernel_rfl)) ?_
  intro W base args ds gs before hval0 hW hcnd _
  have hval : ∀ (j : Nat) t v, Try.f9.params[j]? = some t → args[j]? = some v → Value.okWide Try.prog W .any base t v := hval0
  have hW' := hW
  obtain ⟨p, q, hA0, hV, rfl, hfz, hnd⟩ := hW
  have hA : DataW.TrodAll enc Try.prog W 0 (fun _ => true) true Try.f9.params.toList args.toList ds p := hA0
  rw [Try.params9] at hA hval
  obtain ⟨v0, vs0, d0, ds0, p0, q0, hargs, rfl, rfl, h0, r0⟩ := trodAll_cons hA
  obtain ⟨v1, vs1, d1, ds1, p1, q1, rfl, rfl, rfl, h1, r1⟩ := trodAll_cons r0
  obtain ⟨rfl, rfl, rfl⟩ := trodAll_nil r1
  obtain rfl : args = #[v0, v1] := by cases args; simp_all
  obtain ⟨rfl, rfl⟩ := trodVars_none hV
  obtain ⟨a0, rfl, rfl, rfl, w0⟩ := open_int Try.underlying2 (hval 0 2 v0 rfl rfl) h0
  obtain ⟨a1, rfl, rfl, rfl, w1⟩ := open_int Try.underlying3 (hval 1 3 v1 rfl rfl) h1
  clear hA0 hval0
  simp only [List.append_nil] at hW'
  refine (walk a0 a1 W).mono fun e W' ⟨he, hg⟩ => ?_
  subst he
  exact ⟨_, rfl, post_of_same (pa := []) (pv := []) hW' (fun _ _ _ => (trodAll_cons_mk (shut_bool Try.underlying4 _) trodAll_mk0)) (fun sp _ => (trodAll_cons_mk (shut_int Try.underlying2 w0) (trodAll_cons_mk (shut_int Try.underlying3 w1) trodAll_mk0))) (fun _ _ => rfl) rfl
    (hg.below.frame _) hg.froz (ok_one (by kernel_rfl) rfl (okWide_bool_mk Try.underlying4 _))⟩

theorem over : Rows.machShiftsRow.holds Try.pinned (OpenSpec.ofChange Rows.machShiftsSpec) :=
  OpenClaim.holds_of_wide 9 Try.f9 rfl rfl rfl rfl rfl rfl rfl ⟨rfl, rfl, rfl, rfl, rfl⟩ rfl rfl rfl rfl rfl (by kernel_rfl) Try.func9 (by kernel_rfl)
    (of_decide_eq_true (by kernel_rfl)) (by unfold Func.isWrapper; first | (rw [if_pos (by decide +kernel)]; kernel_rfl) | (rw [if_neg (by decide +kernel)]; exact ⟨rfl, rfl⟩))
    (fun os started H enc _ => lifted os started H enc)

theorem proved : Rows.MachShiftsSaid :=
  over
#print axioms proved
end Go.Proofs.Ytopnbdblgfjnpaa.machShifts
