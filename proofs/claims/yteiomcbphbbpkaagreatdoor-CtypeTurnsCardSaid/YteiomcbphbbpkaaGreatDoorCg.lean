/- Types made of numbers: the walk. -/
import Derived.Test.YteiomcbphbbpkaaGreatDoorCf
import Derived.Deep.QuietTactic
import Derived.BigQuiet
namespace Go.Proofs.YteiomcbphbbpkaaGreatDoor
set_option linter.unusedSimpArgs false
set_option linter.unusedVariables false
open Go.RowKit
theorem CodeAt.none {w : World} {zs : Nat → Int} {n : Nat} : CodeAt w zs n n Option.none 0 0 := ⟨by omega, Nat.le_refl _, Nat.zero_le _, Or.inl rfl⟩
theorem type_zero (w0 : World) (zs : Nat → Int) (n : Nat) : TypeSpec w0 zs n 0 := by
  intro dep i p m c w hd h0 hi hc hf
  have hd' : 60 < dep := by omega
  clear hd
  by_cases hm : m = 0
  · subst hm
    clear hc hf hi
    go_enter Tryz.func26, Tryz.ntmps26
    go_wp2_with fail
    go_returns
    exact ⟨⟨_, _, _, _, _, _, rfl, Kids.none _, CodeAt.none⟩, (by (repeat' first | with_reducible exact Fresh.refl _ | with_reducible assumption | with_reducible refine Fresh.alloc ?_ _ _ | with_reducible refine Fresh.drew ?_ | with_reducible refine Fresh.drewN ?_ _ | with_reducible refine Fresh.setCell ?_ ?_ _ | with_reducible refine Fresh.trans ?_ (by assumption) | (simp; done) | (simp; omega)))⟩
  · have hm1 : ((m : Int) == 0) = false := by simp; omega
    clear hc hf hi hm
    go_enter Tryz.func26, Tryz.ntmps26
    go_wp2_with fail
    go_returns
    exact ⟨⟨_, _, _, _, _, _, rfl, Kids.none _, CodeAt.none⟩, (by (repeat' first | with_reducible exact Fresh.refl _ | with_reducible assumption | with_reducible refine Fresh.alloc ?_ _ _ | with_reducible refine Fresh.drew ?_ | with_reducible refine Fresh.drewN ?_ _ | with_reducible refine Fresh.setCell ?_ ?_ _ | with_reducible refine Fresh.trans ?_ (by assumption) | (simp; done) | (simp; omega)))⟩
set_option maxHeartbeats 4000000 in
theorem type_succ (w0 : World) (zs : Nat → Int) (n d : Nat) (ih : TypeSpec w0 zs n d) (mh : MadeSpec w0 zs n d) : TypeSpec w0 zs n (d + 1) := by
  intro dep i p m c w hd h0 hi hc hf
  have hd' : dep ≤ 60 := by omega
  have HD := Lib.hid (show dep + d = 60 by omega)
  have HF := Lib.hid hf
  have IH := Lib.hid ih
  have MH := Lib.hid mh
  have hle := mkT_le zs n d
  have HLE := Lib.hid hle
  clear hd hf ih mh hle
  rw [show mkT zs n (d + 1) i = mkS (mkT zs n d) zs n i from rfl]
  by_cases hm : m = 0
  · have HE : Hid (mkS (mkT zs n d) zs n i = ⟨Hd.zero, .nil, n⟩) := Lib.hid (by unfold mkS; rw [if_pos (by have := hc.1; omega)])
    subst hm
    clear hc hi
    rw [HE.out]
    go_enter Tryz.func26, Tryz.ntmps26
    go_wp2_with fail
    go_returns
    exact ⟨⟨_, _, _, _, _, _, rfl, Kids.none _, CodeAt.none⟩, (by (repeat' first | with_reducible exact Fresh.refl _ | with_reducible assumption | with_reducible refine Fresh.alloc ?_ _ _ | with_reducible refine Fresh.drew ?_ | with_reducible refine Fresh.drewN ?_ _ | with_reducible refine Fresh.setCell ?_ ?_ _ | with_reducible refine Fresh.trans ?_ (by assumption) | (simp; done) | (simp; omega)))⟩
  · have hm1 : ((m : Int) == 0) = false := by simp; omega
    have hm2 : (0 : Int) < (m : Int) := by omega
    have hin : i < n := by have := hc.1; omega
    obtain ⟨B, off, rfl, hcell⟩ := hc.2.2.2.resolve_left hm
    have hcm : m ≤ c := hc.2.1
    have hcx : c ≤ maxLen := hc.2.2.1
    unfold maxLen at hcx
    have c0 := hcell 0 (by omega)
    simp only [Nat.add_zero] at c0
    have d0 := HF.out.at' c0
    have z0 := cell_lt d0
    simp only at z0
    have HRest : Hid (∀ c', m - 1 ≤ c' → c' ≤ maxLen → CodeAt w0 zs n (i + 1) (some ⟨B, off + 1, Option.none⟩) (m - 1) c') := Lib.hid (fun c' h1 h2 => ⟨by have := hc.1; omega, h1, h2, Or.inr ⟨B, off + 1, rfl, fun j hj => by
      have := hcell (j + 1) (by omega)
      rwa [show off + 1 + j = off + (j + 1) by omega, show i + 1 + j = i + (j + 1) by omega]⟩⟩)
    have HCell := Lib.hid hcell
    have HC := Lib.hid hc
    clear hcell hc c0
    generalize hk : zs i = k at *
    have HK := Lib.hid hk
    clear hk
    have HB := Lib.hid (Blk.new w #[.int .i64 0, .int .i64 0, .int .i64 0, .bool false, .string ⟨#[]⟩, .slice none 0 0] 25).six
    have HNil : Hid (c = 1 → ∀ q c', c' ≤ maxLen → CodeAt w0 zs n (i + 1) q (m - 1) c') := Lib.hid (fun e q c' h => ⟨by have := HC.out.1; omega, by omega, h, Or.inl (by omega)⟩)
    by_cases k0 : k = 0
    · subst k0
      have HE : Hid (mkS (mkT zs n d) zs n i = ⟨hd1 1, .nil, i + 1⟩) := Lib.hid (by unfold mkS; rw [if_neg (by omega), if_pos HK.out])
      rw [HE.out]
      go_enter Tryz.func26, Tryz.ntmps26
      go_wp2_with fail
      go_quiet (fail)
      go_wp2_with fail
      all_goals (go_at_call 47; refine (voidT_any _).mono ?_; rintro e w1 ⟨rfl, h1⟩; obtain ⟨r0, r1, r2, r3, r4, r5, rf⟩ := (HB.out.fresh (Fresh.drewN (Fresh.refl _) _)).fresh h1; have rz := cell_lt r0; simp only at rz)
      all_goals go_wp2_with fail
      all_goals refine bodyPost_ret (v := ?_) ?_ rfl ?_; rotate_left 1; focus (simp [results, Tryz.results26, go_sem, *]; (try rfl); done)
      all_goals first | exact ⟨⟨_, _, _, _, _, _, rfl, Kids.none _, HRest.out _ (by omega) (by unfold maxLen; omega)⟩, (by (repeat' first | with_reducible exact Fresh.refl _ | with_reducible assumption | with_reducible refine Fresh.alloc ?_ _ _ | with_reducible refine Fresh.drew ?_ | with_reducible refine Fresh.drewN ?_ _ | with_reducible refine Fresh.setCell ?_ ?_ _ | with_reducible refine Fresh.trans ?_ (by assumption) | (simp; done) | (simp; omega)))⟩ | exact ⟨⟨_, _, _, _, _, _, rfl, Kids.none _, HNil.out (by assumption) _ _ (by unfold maxLen; omega)⟩, (by (repeat' first | with_reducible exact Fresh.refl _ | with_reducible assumption | with_reducible refine Fresh.alloc ?_ _ _ | with_reducible refine Fresh.drew ?_ | with_reducible refine Fresh.drewN ?_ _ | with_reducible refine Fresh.setCell ?_ ?_ _ | with_reducible refine Fresh.trans ?_ (by assumption) | (simp; done) | (simp; omega)))⟩
    by_cases k1 : k = 1
    · subst k1
      have HE : Hid (mkS (mkT zs n d) zs n i = ⟨numHd 1 false, .nil, i + 1⟩) := Lib.hid (by unfold mkS; rw [if_neg (by omega), if_neg (by rw [HK.out]; omega), if_pos (by rw [HK.out]; omega)]; rw [HK.out]; rfl)
      rw [HE.out]
      go_enter Tryz.func26, Tryz.ntmps26
      go_wp2_with fail
      go_quiet (fail)
      go_wp2_with fail
      all_goals (go_at_call 8; refine (numT_any 1 false _).mono ?_; rintro e w1 ⟨rfl, h1⟩; obtain ⟨r0, r1, r2, r3, r4, r5, rf⟩ := (HB.out.fresh (Fresh.drewN (Fresh.refl _) _)).fresh h1; have rz := cell_lt r0; simp only at rz)
      all_goals go_wp2_with fail
      all_goals refine bodyPost_ret (v := ?_) ?_ rfl ?_; rotate_left 1; focus (simp [results, Tryz.results26, go_sem, *]; (try rfl); done)
      all_goals first | exact ⟨⟨_, _, _, _, _, _, rfl, Kids.none _, HRest.out _ (by omega) (by unfold maxLen; omega)⟩, (by (repeat' first | with_reducible exact Fresh.refl _ | with_reducible assumption | with_reducible refine Fresh.alloc ?_ _ _ | with_reducible refine Fresh.drew ?_ | with_reducible refine Fresh.drewN ?_ _ | with_reducible refine Fresh.setCell ?_ ?_ _ | with_reducible refine Fresh.trans ?_ (by assumption) | (simp; done) | (simp; omega)))⟩ | exact ⟨⟨_, _, _, _, _, _, rfl, Kids.none _, HNil.out (by assumption) _ _ (by unfold maxLen; omega)⟩, (by (repeat' first | with_reducible exact Fresh.refl _ | with_reducible assumption | with_reducible refine Fresh.alloc ?_ _ _ | with_reducible refine Fresh.drew ?_ | with_reducible refine Fresh.drewN ?_ _ | with_reducible refine Fresh.setCell ?_ ?_ _ | with_reducible refine Fresh.trans ?_ (by assumption) | (simp; done) | (simp; omega)))⟩
    by_cases k2 : k = 2
    · subst k2
      have HE : Hid (mkS (mkT zs n d) zs n i = ⟨numHd 1 true, .nil, i + 1⟩) := Lib.hid (by unfold mkS; rw [if_neg (by omega), if_neg (by rw [HK.out]; omega), if_pos (by rw [HK.out]; omega)]; rw [HK.out]; rfl)
      rw [HE.out]
      go_enter Tryz.func26, Tryz.ntmps26
      go_wp2_with fail
      go_quiet (fail)
      go_wp2_with fail
      all_goals (go_at_call 8; refine (numT_any 1 true _).mono ?_; rintro e w1 ⟨rfl, h1⟩; obtain ⟨r0, r1, r2, r3, r4, r5, rf⟩ := (HB.out.fresh (Fresh.drewN (Fresh.refl _) _)).fresh h1; have rz := cell_lt r0; simp only at rz)
      all_goals go_wp2_with fail
      all_goals refine bodyPost_ret (v := ?_) ?_ rfl ?_; rotate_left 1; focus (simp [results, Tryz.results26, go_sem, *]; (try rfl); done)
      all_goals first | exact ⟨⟨_, _, _, _, _, _, rfl, Kids.none _, HRest.out _ (by omega) (by unfold maxLen; omega)⟩, (by (repeat' first | with_reducible exact Fresh.refl _ | with_reducible assumption | with_reducible refine Fresh.alloc ?_ _ _ | with_reducible refine Fresh.drew ?_ | with_reducible refine Fresh.drewN ?_ _ | with_reducible refine Fresh.setCell ?_ ?_ _ | with_reducible refine Fresh.trans ?_ (by assumption) | (simp; done) | (simp; omega)))⟩ | exact ⟨⟨_, _, _, _, _, _, rfl, Kids.none _, HNil.out (by assumption) _ _ (by unfold maxLen; omega)⟩, (by (repeat' first | with_reducible exact Fresh.refl _ | with_reducible assumption | with_reducible refine Fresh.alloc ?_ _ _ | with_reducible refine Fresh.drew ?_ | with_reducible refine Fresh.drewN ?_ _ | with_reducible refine Fresh.setCell ?_ ?_ _ | with_reducible refine Fresh.trans ?_ (by assumption) | (simp; done) | (simp; omega)))⟩
    by_cases k3 : k = 3
    · subst k3
      have HE : Hid (mkS (mkT zs n d) zs n i = ⟨numHd 2 false, .nil, i + 1⟩) := Lib.hid (by unfold mkS; rw [if_neg (by omega), if_neg (by rw [HK.out]; omega), if_pos (by rw [HK.out]; omega)]; rw [HK.out]; rfl)
      rw [HE.out]
      go_enter Tryz.func26, Tryz.ntmps26
      go_wp2_with fail
      go_quiet (fail)
      go_wp2_with fail
      all_goals (go_at_call 8; refine (numT_any 2 false _).mono ?_; rintro e w1 ⟨rfl, h1⟩; obtain ⟨r0, r1, r2, r3, r4, r5, rf⟩ := (HB.out.fresh (Fresh.drewN (Fresh.refl _) _)).fresh h1; have rz := cell_lt r0; simp only at rz)
      all_goals go_wp2_with fail
      all_goals refine bodyPost_ret (v := ?_) ?_ rfl ?_; rotate_left 1; focus (simp [results, Tryz.results26, go_sem, *]; (try rfl); done)
      all_goals first | exact ⟨⟨_, _, _, _, _, _, rfl, Kids.none _, HRest.out _ (by omega) (by unfold maxLen; omega)⟩, (by (repeat' first | with_reducible exact Fresh.refl _ | with_reducible assumption | with_reducible refine Fresh.alloc ?_ _ _ | with_reducible refine Fresh.drew ?_ | with_reducible refine Fresh.drewN ?_ _ | with_reducible refine Fresh.setCell ?_ ?_ _ | with_reducible refine Fresh.trans ?_ (by assumption) | (simp; done) | (simp; omega)))⟩ | exact ⟨⟨_, _, _, _, _, _, rfl, Kids.none _, HNil.out (by assumption) _ _ (by unfold maxLen; omega)⟩, (by (repeat' first | with_reducible exact Fresh.refl _ | with_reducible assumption | with_reducible refine Fresh.alloc ?_ _ _ | with_reducible refine Fresh.drew ?_ | with_reducible refine Fresh.drewN ?_ _ | with_reducible refine Fresh.setCell ?_ ?_ _ | with_reducible refine Fresh.trans ?_ (by assumption) | (simp; done) | (simp; omega)))⟩
    by_cases k4 : k = 4
    · subst k4
      have HE : Hid (mkS (mkT zs n d) zs n i = ⟨numHd 2 true, .nil, i + 1⟩) := Lib.hid (by unfold mkS; rw [if_neg (by omega), if_neg (by rw [HK.out]; omega), if_pos (by rw [HK.out]; omega)]; rw [HK.out]; rfl)
      rw [HE.out]
      go_enter Tryz.func26, Tryz.ntmps26
      go_wp2_with fail
      go_quiet (fail)
      go_wp2_with fail
      all_goals (go_at_call 8; refine (numT_any 2 true _).mono ?_; rintro e w1 ⟨rfl, h1⟩; obtain ⟨r0, r1, r2, r3, r4, r5, rf⟩ := (HB.out.fresh (Fresh.drewN (Fresh.refl _) _)).fresh h1; have rz := cell_lt r0; simp only at rz)
      all_goals go_wp2_with fail
      all_goals refine bodyPost_ret (v := ?_) ?_ rfl ?_; rotate_left 1; focus (simp [results, Tryz.results26, go_sem, *]; (try rfl); done)
      all_goals first | exact ⟨⟨_, _, _, _, _, _, rfl, Kids.none _, HRest.out _ (by omega) (by unfold maxLen; omega)⟩, (by (repeat' first | with_reducible exact Fresh.refl _ | with_reducible assumption | with_reducible refine Fresh.alloc ?_ _ _ | with_reducible refine Fresh.drew ?_ | with_reducible refine Fresh.drewN ?_ _ | with_reducible refine Fresh.setCell ?_ ?_ _ | with_reducible refine Fresh.trans ?_ (by assumption) | (simp; done) | (simp; omega)))⟩ | exact ⟨⟨_, _, _, _, _, _, rfl, Kids.none _, HNil.out (by assumption) _ _ (by unfold maxLen; omega)⟩, (by (repeat' first | with_reducible exact Fresh.refl _ | with_reducible assumption | with_reducible refine Fresh.alloc ?_ _ _ | with_reducible refine Fresh.drew ?_ | with_reducible refine Fresh.drewN ?_ _ | with_reducible refine Fresh.setCell ?_ ?_ _ | with_reducible refine Fresh.trans ?_ (by assumption) | (simp; done) | (simp; omega)))⟩
    by_cases k5 : k = 5
    · subst k5
      have HE : Hid (mkS (mkT zs n d) zs n i = ⟨numHd 4 false, .nil, i + 1⟩) := Lib.hid (by unfold mkS; rw [if_neg (by omega), if_neg (by rw [HK.out]; omega), if_pos (by rw [HK.out]; omega)]; rw [HK.out]; rfl)
      rw [HE.out]
      go_enter Tryz.func26, Tryz.ntmps26
      go_wp2_with fail
      go_quiet (fail)
      go_wp2_with fail
      all_goals (go_at_call 8; refine (numT_any 4 false _).mono ?_; rintro e w1 ⟨rfl, h1⟩; obtain ⟨r0, r1, r2, r3, r4, r5, rf⟩ := (HB.out.fresh (Fresh.drewN (Fresh.refl _) _)).fresh h1; have rz := cell_lt r0; simp only at rz)
      all_goals go_wp2_with fail
      all_goals refine bodyPost_ret (v := ?_) ?_ rfl ?_; rotate_left 1; focus (simp [results, Tryz.results26, go_sem, *]; (try rfl); done)
      all_goals first | exact ⟨⟨_, _, _, _, _, _, rfl, Kids.none _, HRest.out _ (by omega) (by unfold maxLen; omega)⟩, (by (repeat' first | with_reducible exact Fresh.refl _ | with_reducible assumption | with_reducible refine Fresh.alloc ?_ _ _ | with_reducible refine Fresh.drew ?_ | with_reducible refine Fresh.drewN ?_ _ | with_reducible refine Fresh.setCell ?_ ?_ _ | with_reducible refine Fresh.trans ?_ (by assumption) | (simp; done) | (simp; omega)))⟩ | exact ⟨⟨_, _, _, _, _, _, rfl, Kids.none _, HNil.out (by assumption) _ _ (by unfold maxLen; omega)⟩, (by (repeat' first | with_reducible exact Fresh.refl _ | with_reducible assumption | with_reducible refine Fresh.alloc ?_ _ _ | with_reducible refine Fresh.drew ?_ | with_reducible refine Fresh.drewN ?_ _ | with_reducible refine Fresh.setCell ?_ ?_ _ | with_reducible refine Fresh.trans ?_ (by assumption) | (simp; done) | (simp; omega)))⟩
    by_cases k6 : k = 6
    · subst k6
      have HE : Hid (mkS (mkT zs n d) zs n i = ⟨numHd 4 true, .nil, i + 1⟩) := Lib.hid (by unfold mkS; rw [if_neg (by omega), if_neg (by rw [HK.out]; omega), if_pos (by rw [HK.out]; omega)]; rw [HK.out]; rfl)
      rw [HE.out]
      go_enter Tryz.func26, Tryz.ntmps26
      go_wp2_with fail
      go_quiet (fail)
      go_wp2_with fail
      all_goals (go_at_call 8; refine (numT_any 4 true _).mono ?_; rintro e w1 ⟨rfl, h1⟩; obtain ⟨r0, r1, r2, r3, r4, r5, rf⟩ := (HB.out.fresh (Fresh.drewN (Fresh.refl _) _)).fresh h1; have rz := cell_lt r0; simp only at rz)
      all_goals go_wp2_with fail
      all_goals refine bodyPost_ret (v := ?_) ?_ rfl ?_; rotate_left 1; focus (simp [results, Tryz.results26, go_sem, *]; (try rfl); done)
      all_goals first | exact ⟨⟨_, _, _, _, _, _, rfl, Kids.none _, HRest.out _ (by omega) (by unfold maxLen; omega)⟩, (by (repeat' first | with_reducible exact Fresh.refl _ | with_reducible assumption | with_reducible refine Fresh.alloc ?_ _ _ | with_reducible refine Fresh.drew ?_ | with_reducible refine Fresh.drewN ?_ _ | with_reducible refine Fresh.setCell ?_ ?_ _ | with_reducible refine Fresh.trans ?_ (by assumption) | (simp; done) | (simp; omega)))⟩ | exact ⟨⟨_, _, _, _, _, _, rfl, Kids.none _, HNil.out (by assumption) _ _ (by unfold maxLen; omega)⟩, (by (repeat' first | with_reducible exact Fresh.refl _ | with_reducible assumption | with_reducible refine Fresh.alloc ?_ _ _ | with_reducible refine Fresh.drew ?_ | with_reducible refine Fresh.drewN ?_ _ | with_reducible refine Fresh.setCell ?_ ?_ _ | with_reducible refine Fresh.trans ?_ (by assumption) | (simp; done) | (simp; omega)))⟩
    by_cases k7 : k = 7
    · subst k7
      have HE : Hid (mkS (mkT zs n d) zs n i = ⟨numHd 8 false, .nil, i + 1⟩) := Lib.hid (by unfold mkS; rw [if_neg (by omega), if_neg (by rw [HK.out]; omega), if_pos (by rw [HK.out]; omega)]; rw [HK.out]; rfl)
      rw [HE.out]
      go_enter Tryz.func26, Tryz.ntmps26
      go_wp2_with fail
      go_quiet (fail)
      go_wp2_with fail
      all_goals (go_at_call 8; refine (numT_any 8 false _).mono ?_; rintro e w1 ⟨rfl, h1⟩; obtain ⟨r0, r1, r2, r3, r4, r5, rf⟩ := (HB.out.fresh (Fresh.drewN (Fresh.refl _) _)).fresh h1; have rz := cell_lt r0; simp only at rz)
      all_goals go_wp2_with fail
      all_goals refine bodyPost_ret (v := ?_) ?_ rfl ?_; rotate_left 1; focus (simp [results, Tryz.results26, go_sem, *]; (try rfl); done)
      all_goals first | exact ⟨⟨_, _, _, _, _, _, rfl, Kids.none _, HRest.out _ (by omega) (by unfold maxLen; omega)⟩, (by (repeat' first | with_reducible exact Fresh.refl _ | with_reducible assumption | with_reducible refine Fresh.alloc ?_ _ _ | with_reducible refine Fresh.drew ?_ | with_reducible refine Fresh.drewN ?_ _ | with_reducible refine Fresh.setCell ?_ ?_ _ | with_reducible refine Fresh.trans ?_ (by assumption) | (simp; done) | (simp; omega)))⟩ | exact ⟨⟨_, _, _, _, _, _, rfl, Kids.none _, HNil.out (by assumption) _ _ (by unfold maxLen; omega)⟩, (by (repeat' first | with_reducible exact Fresh.refl _ | with_reducible assumption | with_reducible refine Fresh.alloc ?_ _ _ | with_reducible refine Fresh.drew ?_ | with_reducible refine Fresh.drewN ?_ _ | with_reducible refine Fresh.setCell ?_ ?_ _ | with_reducible refine Fresh.trans ?_ (by assumption) | (simp; done) | (simp; omega)))⟩
    by_cases k8 : k = 8
    · subst k8
      have HE : Hid (mkS (mkT zs n d) zs n i = ⟨numHd 8 true, .nil, i + 1⟩) := Lib.hid (by unfold mkS; rw [if_neg (by omega), if_neg (by rw [HK.out]; omega), if_pos (by rw [HK.out]; omega)]; rw [HK.out]; rfl)
      rw [HE.out]
      go_enter Tryz.func26, Tryz.ntmps26
      go_wp2_with fail
      go_quiet (fail)
      go_wp2_with fail
      all_goals (go_at_call 8; refine (numT_any 8 true _).mono ?_; rintro e w1 ⟨rfl, h1⟩; obtain ⟨r0, r1, r2, r3, r4, r5, rf⟩ := (HB.out.fresh (Fresh.drewN (Fresh.refl _) _)).fresh h1; have rz := cell_lt r0; simp only at rz)
      all_goals go_wp2_with fail
      all_goals refine bodyPost_ret (v := ?_) ?_ rfl ?_; rotate_left 1; focus (simp [results, Tryz.results26, go_sem, *]; (try rfl); done)
      all_goals first | exact ⟨⟨_, _, _, _, _, _, rfl, Kids.none _, HRest.out _ (by omega) (by unfold maxLen; omega)⟩, (by (repeat' first | with_reducible exact Fresh.refl _ | with_reducible assumption | with_reducible refine Fresh.alloc ?_ _ _ | with_reducible refine Fresh.drew ?_ | with_reducible refine Fresh.drewN ?_ _ | with_reducible refine Fresh.setCell ?_ ?_ _ | with_reducible refine Fresh.trans ?_ (by assumption) | (simp; done) | (simp; omega)))⟩ | exact ⟨⟨_, _, _, _, _, _, rfl, Kids.none _, HNil.out (by assumption) _ _ (by unfold maxLen; omega)⟩, (by (repeat' first | with_reducible exact Fresh.refl _ | with_reducible assumption | with_reducible refine Fresh.alloc ?_ _ _ | with_reducible refine Fresh.drew ?_ | with_reducible refine Fresh.drewN ?_ _ | with_reducible refine Fresh.setCell ?_ ?_ _ | with_reducible refine Fresh.trans ?_ (by assumption) | (simp; done) | (simp; omega)))⟩
    by_cases k9 : k = 9
    · subst k9
      have HE : Hid (mkS (mkT zs n d) zs n i = ⟨hd1 3, .nil, i + 1⟩) := Lib.hid (by unfold mkS; rw [if_neg (by omega), if_neg (by rw [HK.out]; omega), if_neg (by rw [HK.out]; omega), if_pos HK.out])
      rw [HE.out]
      go_enter Tryz.func26, Tryz.ntmps26
      go_wp2_with fail
      go_quiet (fail)
      go_wp2_with fail
      all_goals (go_at_call 12; refine (floatT_any _).mono ?_; rintro e w1 ⟨rfl, h1⟩; obtain ⟨r0, r1, r2, r3, r4, r5, rf⟩ := (HB.out.fresh (Fresh.drewN (Fresh.refl _) _)).fresh h1; have rz := cell_lt r0; simp only at rz)
      all_goals go_wp2_with fail
      all_goals refine bodyPost_ret (v := ?_) ?_ rfl ?_; rotate_left 1; focus (simp [results, Tryz.results26, go_sem, *]; (try rfl); done)
      all_goals first | exact ⟨⟨_, _, _, _, _, _, rfl, Kids.none _, HRest.out _ (by omega) (by unfold maxLen; omega)⟩, (by (repeat' first | with_reducible exact Fresh.refl _ | with_reducible assumption | with_reducible refine Fresh.alloc ?_ _ _ | with_reducible refine Fresh.drew ?_ | with_reducible refine Fresh.drewN ?_ _ | with_reducible refine Fresh.setCell ?_ ?_ _ | with_reducible refine Fresh.trans ?_ (by assumption) | (simp; done) | (simp; omega)))⟩ | exact ⟨⟨_, _, _, _, _, _, rfl, Kids.none _, HNil.out (by assumption) _ _ (by unfold maxLen; omega)⟩, (by (repeat' first | with_reducible exact Fresh.refl _ | with_reducible assumption | with_reducible refine Fresh.alloc ?_ _ _ | with_reducible refine Fresh.drew ?_ | with_reducible refine Fresh.drewN ?_ _ | with_reducible refine Fresh.setCell ?_ ?_ _ | with_reducible refine Fresh.trans ?_ (by assumption) | (simp; done) | (simp; omega)))⟩
    by_cases k15 : k = 15
    · subst k15
      have HE : Hid (mkS (mkT zs n d) zs n i = ⟨numHd 3 false, .nil, i + 1⟩) := Lib.hid (by unfold mkS; rw [if_neg (by omega), if_neg (by rw [HK.out]; omega), if_neg (by rw [HK.out]; omega), if_neg (by rw [HK.out]; omega), if_neg (by rw [HK.out]; omega), if_neg (by rw [HK.out]; omega), if_pos HK.out])
      rw [HE.out]
      go_enter Tryz.func26, Tryz.ntmps26
      go_wp2_with fail
      go_quiet (fail)
      go_wp2_with fail
      all_goals (go_at_call 8; refine (numT_any 3 false _).mono ?_; rintro e w1 ⟨rfl, h1⟩; obtain ⟨r0, r1, r2, r3, r4, r5, rf⟩ := (HB.out.fresh (Fresh.drewN (Fresh.refl _) _)).fresh h1; have rz := cell_lt r0; simp only at rz)
      all_goals go_wp2_with fail
      all_goals refine bodyPost_ret (v := ?_) ?_ rfl ?_; rotate_left 1; focus (simp [results, Tryz.results26, go_sem, *]; (try rfl); done)
      all_goals first | exact ⟨⟨_, _, _, _, _, _, rfl, Kids.none _, HRest.out _ (by omega) (by unfold maxLen; omega)⟩, (by (repeat' first | with_reducible exact Fresh.refl _ | with_reducible assumption | with_reducible refine Fresh.alloc ?_ _ _ | with_reducible refine Fresh.drew ?_ | with_reducible refine Fresh.drewN ?_ _ | with_reducible refine Fresh.setCell ?_ ?_ _ | with_reducible refine Fresh.trans ?_ (by assumption) | (simp; done) | (simp; omega)))⟩ | exact ⟨⟨_, _, _, _, _, _, rfl, Kids.none _, HNil.out (by assumption) _ _ (by unfold maxLen; omega)⟩, (by (repeat' first | with_reducible exact Fresh.refl _ | with_reducible assumption | with_reducible refine Fresh.alloc ?_ _ _ | with_reducible refine Fresh.drew ?_ | with_reducible refine Fresh.drewN ?_ _ | with_reducible refine Fresh.setCell ?_ ?_ _ | with_reducible refine Fresh.trans ?_ (by assumption) | (simp; done) | (simp; omega)))⟩
    by_cases k10 : k = 10
    · subst k10
      have HE : Hid (mkS (mkT zs n d) zs n i = ⟨hd1 4, .cons (mkT zs n d (i + 1)).h (mkT zs n d (i + 1)).ks .nil, (mkT zs n d (i + 1)).j⟩) := Lib.hid (by unfold mkS; rw [if_neg (by omega), if_neg (by rw [HK.out]; omega), if_neg (by rw [HK.out]; omega), if_neg (by rw [HK.out]; omega), if_pos HK.out])
      rw [HE.out]
      go_enter Tryz.func26, Tryz.ntmps26
      go_wp2_with fail
      go_quiet (fail)
      go_wp2_with fail
      all_goals (go_at_call 26; refine (IH.out (dep + 1) (i + 1) _ (m - 1) _ _ (by have := HD.out; omega) (by omega) (by omega) (by first | exact HRest.out _ (by omega) (by unfold maxLen; omega) | exact HNil.out (by assumption) _ _ (by unfold maxLen; omega)) (HF.out.trans (by (repeat' first | with_reducible exact Fresh.refl _ | with_reducible assumption | with_reducible refine Fresh.alloc ?_ _ _ | with_reducible refine Fresh.drew ?_ | with_reducible refine Fresh.drewN ?_ _ | with_reducible refine Fresh.setCell ?_ ?_ _ | with_reducible refine Fresh.trans ?_ (by assumption) | (simp; done) | (simp; omega))))).mono ?_; rintro e w1 ⟨⟨p1, n1, cap1, q1, m1, c1, rfl, hk1, hc1⟩, h1⟩; have HK1 := Lib.hid (hk1.mono (ok' := fun b => w.heap.size + 1 ≤ b) (fun b _ hb => by simpa using hb)); have HC1 := Lib.hid hc1; have hz1 : w.heap.size + 1 ≤ w1.heap.size := (by simpa using h1.size); clear hk1 hc1)
      all_goals (go_wp2_with fail; go_at_call 20; refine (ptrT_any (ok := fun b => w.heap.size + 1 ≤ b) (mkT zs n d (i + 1)).h (mkT zs n d (i + 1)).ks p1 n1 cap1 _ (fun b hb => by simp at hb; omega) (HK1.out.later (by (repeat' first | with_reducible exact Fresh.refl _ | with_reducible assumption | with_reducible refine Fresh.alloc ?_ _ _ | with_reducible refine Fresh.drew ?_ | with_reducible refine Fresh.drewN ?_ _ | with_reducible refine Fresh.setCell ?_ ?_ _ | with_reducible refine Fresh.trans ?_ (by assumption) | (simp; done) | (simp; omega))))).mono ?_; rintro e w2 ⟨⟨p2, rfl, hk2⟩, h2⟩; obtain ⟨r0, r1, r2, r3, r4, r5, rf⟩ := ((HB.out.fresh (Fresh.drewN (Fresh.refl _) _)).fresh h1).fresh (Fresh.trans (Fresh.alloc (Fresh.refl _) _ _) h2); have rz := cell_lt r0; simp only at rz; have HK2 := Lib.hid hk2; clear hk2)
      all_goals go_wp2_with fail
      all_goals refine bodyPost_ret (v := ?_) ?_ rfl ?_; rotate_left 1; focus (simp [results, Tryz.results26, go_sem, *]; (try rfl); done)
      all_goals exact ⟨⟨_, _, _, _, _, _, rfl, ((((((HK2.out.set (by simp) 0 _).set (by simp) 1 _).set (by simp) 2 _).set (by simp) 3 _).set (by simp) 4 _).set (by simp) 5 _).mono (fun b _ hb => by omega), HC1.out⟩, (by (repeat' first | with_reducible exact Fresh.refl _ | with_reducible assumption | with_reducible refine Fresh.alloc ?_ _ _ | with_reducible refine Fresh.drew ?_ | with_reducible refine Fresh.drewN ?_ _ | with_reducible refine Fresh.setCell ?_ ?_ _ | with_reducible refine Fresh.trans ?_ (by assumption) | (simp; done) | (simp; omega)))⟩
    by_cases k1114 : 11 ≤ k ∧ k ≤ 14
    · by_cases hm2 : m = 1
      · have HE : Hid (mkS (mkT zs n d) zs n i = ⟨Hd.zero, .nil, i + 1⟩) := Lib.hid (by unfold mkS; rw [if_neg (by omega), if_neg (by rw [HK.out]; omega), if_neg (by rw [HK.out]; omega), if_neg (by rw [HK.out]; omega), if_neg (by rw [HK.out]; omega), if_neg (by rw [HK.out]; have := HC.out.1; omega), if_neg (by rw [HK.out]; omega)])
        have k0b : (k == 0) = false := by simpa using k0
        have k9b : (k == 9) = false := by simpa using k9
        have k10b : (k == 10) = false := by simpa using k10
        have k15b : (k == 15) = false := by simpa using k15
        have hb1 : decide ((0 : Int) < ((m - 1 : Nat) : Int)) = false := by simp; omega
        rw [HE.out]
        obtain ⟨k11, k14⟩ := k1114
        clear k0 k1 k2 k3 k4 k5 k6 k7 k8 k9 k15 k10
        have hm1' : ¬ 0 < m - 1 := by omega
        go_enter Tryz.func26, Tryz.ntmps26
        go_wp2_with fail
        go_quiet (fail)
        go_wp2_with fail
        all_goals refine bodyPost_ret (v := ?_) ?_ rfl ?_; rotate_left 1; focus (simp [results, Tryz.results26, go_sem, *]; (try rfl); done)
        all_goals exact ⟨⟨_, _, _, _, _, _, rfl, Kids.none _, (show CodeAt w0 zs n (i + 1) _ _ _ from ⟨by have := HC.out.1; omega, by omega, by unfold maxLen; omega, Or.inl (by omega)⟩)⟩, (by (repeat' first | with_reducible exact Fresh.refl _ | with_reducible assumption | with_reducible refine Fresh.alloc ?_ _ _ | with_reducible refine Fresh.drew ?_ | with_reducible refine Fresh.drewN ?_ _ | with_reducible refine Fresh.setCell ?_ ?_ _ | with_reducible refine Fresh.trans ?_ (by assumption) | (simp; done) | (simp; omega)))⟩
      · have c1 := HCell.out 1 (by omega)
        have HE : Hid (mkS (mkT zs n d) zs n i = mkM (mkT zs n d) k (zs (i + 1)) (i + 2)) := Lib.hid (by unfold mkS; rw [if_neg (by omega), if_neg (by rw [HK.out]; omega), if_neg (by rw [HK.out]; omega), if_neg (by rw [HK.out]; omega), if_neg (by rw [HK.out]; omega), if_pos (by rw [HK.out]; have := HC.out.1; omega), HK.out])
        have e1 := HF.out.at' c1
        have hb1 : (0 : Int) < ((m - 1 : Nat) : Int) := by omega
        have hin2 : i + 2 ≤ n := by have := HC.out.1; omega
        have hb2 : (1 : Int) ≤ ((m - 1 : Nat) : Int) := by omega
        have hb3 : ((m - 1 : Nat) : Int) ≤ ((c - 1 : Nat) : Int) := by omega
        have hb4 : 1 ≤ m - 1 := by omega
        have hb5 : m - 1 ≤ c - 1 := by omega
        have k0b : (k == 0) = false := by simpa using k0
        have k9b : (k == 9) = false := by simpa using k9
        have k10b : (k == 10) = false := by simpa using k10
        have hc1 : ¬ c = 1 := by omega
        have H2 : Hid (∀ c', m - 1 - 1 ≤ c' → c' ≤ maxLen → CodeAt w0 zs n (i + 2) (some ⟨B, off + 1 + 1, Option.none⟩) (m - 1 - 1) c') := Lib.hid (fun c' h1 h2 => ⟨by have := HC.out.1; omega, h1, h2, Or.inr ⟨B, off + 1 + 1, rfl, fun j hj => by
          have := HCell.out (j + 2) (by omega)
          rwa [show off + 1 + 1 + j = off + (j + 2) by omega, show i + 2 + j = i + (j + 2) by omega]⟩⟩)
        have H2n : Hid (c - 1 = 1 → ∀ q c', c' ≤ maxLen → CodeAt w0 zs n (i + 2) q (m - 1 - 1) c') := Lib.hid (fun e q c' h => ⟨by have := HC.out.1; omega, by omega, h, Or.inl (by omega)⟩)
        rw [HE.out]
        obtain ⟨k11, k14⟩ := k1114
        clear k0 k1 k2 k3 k4 k5 k6 k7 k8 k9 k15 c1 k10
        generalize zs (i + 1) = l at *
        by_cases hc2 : c - 1 = 1
        all_goals
          go_enter Tryz.func26, Tryz.ntmps26
          go_wp2_with fail
          go_quiet (fail)
          go_wp2_with fail
          have E0 : Hid (Fresh w ((w.alloc (.cells #[.int .i64 0, .int .i64 0, .int .i64 0, .bool false, .string ⟨#[]⟩, .slice none 0 0] 25)).drewN nq)) := Lib.hid (by (repeat' first | with_reducible exact Fresh.refl _ | with_reducible assumption | with_reducible refine Fresh.alloc ?_ _ _ | with_reducible refine Fresh.drew ?_ | with_reducible refine Fresh.drewN ?_ _ | with_reducible refine Fresh.setCell ?_ ?_ _ | with_reducible refine Fresh.trans ?_ (by assumption) | (simp; done) | (simp; omega)))
          have HB' := Lib.hid (HB.out.fresh ((Fresh.refl _).drewN nq))
          have HZ : Hid (((w.alloc (.cells #[.int .i64 0, .int .i64 0, .int .i64 0, .bool false, .string ⟨#[]⟩, .slice none 0 0] 25)).drewN nq).heap.size = w.heap.size + 1) := Lib.hid (by simp)
          generalize hW : (w.alloc (.cells #[.int .i64 0, .int .i64 0, .int .i64 0, .bool false, .string ⟨#[]⟩, .slice none 0 0] 25)).drewN nq = W at *
          clear hW
          have E : Hid (Fresh W W.drew) := Lib.hid (Fresh.refl W).drew
          go_region_held3 (fun w' => w'.cell? ⟨B, off + 1, none⟩ = some (.int .i64 l)) (first | with_reducible exact (E0.out.trans E.out).at' e1 | (simp [go_sem]; with_reducible exact (E0.out.trans E.out).at' e1)) (first | (go_at_call 48; (refine (MH.out dep (i + 2) k l _ (m - 1 - 1) _ _ HD.out h0 k11 k14 (by omega) (by first | exact H2.out _ (by omega) (by unfold maxLen; omega) | exact H2n.out (by assumption) _ _ (by unfold maxLen; omega)) (HF.out.trans (E0.out.trans E.out))).mono ?_); rintro e w1 ⟨⟨p1, n1, cap1, q1, m1, c1, rfl, hk1, hc1⟩, h1⟩; have hz0 := E.out.size; have HK1 := Lib.hid (hk1.mono (ok' := fun b => w.heap.size + 1 ≤ b) (fun b _ hb => by have := HZ.out; simp at hb; omega)); have HC1 := Lib.hid hc1; have E := Lib.hid (E.out.trans h1); clear hk1 hc1 h1; obtain ⟨r0, r1, r2, r3, r4, r5, rf⟩ := HB'.out.fresh E.out))
          all_goals (try go_wp2_with fail)
          all_goals refine bodyPost_ret (v := ?_) ?_ rfl ?_; rotate_left 1; focus (simp [results, Tryz.results26, go_sem, *]; (try rfl); done)
          all_goals exact ⟨⟨_, _, _, _, _, _, rfl, ((((((HK1.out.set (by simp) 0 _).set (by simp) 1 _).set (by simp) 2 _).set (by simp) 3 _).set (by simp) 4 _).set (by simp) 5 _).mono (fun b _ hb => by omega), HC1.out⟩, (by repeat' first | with_reducible refine Fresh.setCell ?_ ?_ _ | exact E0.out.trans E.out | (simp; done) | (simp; omega))⟩
    · have HE : Hid (mkS (mkT zs n d) zs n i = ⟨Hd.zero, .nil, i + 1⟩) := Lib.hid (by unfold mkS; rw [if_neg (by omega), if_neg (by rw [HK.out]; omega), if_neg (by rw [HK.out]; omega), if_neg (by rw [HK.out]; omega), if_neg (by rw [HK.out]; omega), if_neg (by rw [HK.out]; omega), if_neg (by rw [HK.out]; omega)])
      have k0b : (k == 0) = false := by simpa using k0
      have k9b : (k == 9) = false := by simpa using k9
      have k10b : (k == 10) = false := by simpa using k10
      have k15b : (k == 15) = false := by simpa using k15
      have hk' : k < 1 ∨ 15 < k := by omega
      rw [HE.out]
      clear k0 k1 k2 k3 k4 k5 k6 k7 k8 k9 k15 k10 k1114
      rcases hk' with hk' | hk'
      all_goals
        go_enter Tryz.func26, Tryz.ntmps26
        go_wp2_with fail
        go_quiet (fail)
        go_wp2_with fail
        all_goals refine bodyPost_ret (v := ?_) ?_ rfl ?_; rotate_left 1; focus (simp [results, Tryz.results26, go_sem, *]; (try rfl); done)
        all_goals first | exact ⟨⟨_, _, _, _, _, _, rfl, Kids.none _, HRest.out _ (by omega) (by unfold maxLen; omega)⟩, (by (repeat' first | with_reducible exact Fresh.refl _ | with_reducible assumption | with_reducible refine Fresh.alloc ?_ _ _ | with_reducible refine Fresh.drew ?_ | with_reducible refine Fresh.drewN ?_ _ | with_reducible refine Fresh.setCell ?_ ?_ _ | with_reducible refine Fresh.trans ?_ (by assumption) | (simp; done) | (simp; omega)))⟩ | exact ⟨⟨_, _, _, _, _, _, rfl, Kids.none _, HNil.out (by assumption) _ _ (by unfold maxLen; omega)⟩, (by (repeat' first | with_reducible exact Fresh.refl _ | with_reducible assumption | with_reducible refine Fresh.alloc ?_ _ _ | with_reducible refine Fresh.drew ?_ | with_reducible refine Fresh.drewN ?_ _ | with_reducible refine Fresh.setCell ?_ ?_ _ | with_reducible refine Fresh.trans ?_ (by assumption) | (simp; done) | (simp; omega)))⟩
end Go.Proofs.YteiomcbphbbpkaaGreatDoor
