/- Which addresses are in their block, whatever they are; the same on both sides. -/
import Derived.Test.YtjbflmpnmobngaaMx
import Derived.Test.YtjbflmpnmobngaaVa
import Derived.Test.YtjbflmpnmobngaaVc
namespace Go.Proofs.Ytjbflmpnmobngaa
set_option linter.unusedSimpArgs false
set_option linter.unusedVariables false
open Go.RowKit

set_option maxHeartbeats 1000000 in
theorem in_none (M mb N : Nat) (f : Int → Option Value) (k n b : Int) (hb : Key b) (hv : atL f k b = .pointer none) (w : World) (h : Mm w M mb N f) :
    Calls Try.prog 49 #[.pointer (some ⟨M, 0, none⟩), .agg #[.int .i64 k, .int .u64 n, .int .i64 b]] w fun e w' => e = .returned (.bool false) ∧ Fresh w w' := by
  have o5 := Own.new' w k n b
  have H := Lib.hid (h.later ((Fresh.refl w).alloc #[.int .i64 k, .int .u64 n, .int .i64 b] 32))
  have HV := Lib.hid hv
  clear h hv
  go_enter Try.func49, Try.ntmps49
  go_wp2_with fail
  go_region_held3 (fun w' => w'.cell? ⟨w.heap.size, 0, none⟩ = some (.int .i64 k) ∧ w'.cell? ⟨w.heap.size, 1, none⟩ = some (.int .u64 n) ∧ w'.cell? ⟨w.heap.size, 2, none⟩ = some (.int .i64 b)) (exact own_cells (o5.later (by (repeat' first | with_reducible exact Fresh.refl _ | with_reducible assumption | with_reducible refine Fresh.alloc ?_ _ _ | with_reducible refine Fresh.drew ?_ | with_reducible refine Fresh.setCell ?_ ?_ _ | with_reducible refine Fresh.trans ?_ (by assumption) | (simp; done) | (simp; omega)))))
    (first | (go_at_call 61; refine (addressed_lit M mb N f _ _ _ hb _ HV.out _ (H.out.later (by (repeat' first | with_reducible exact Fresh.refl _ | with_reducible assumption | with_reducible refine Fresh.alloc ?_ _ _ | with_reducible refine Fresh.drew ?_ | with_reducible refine Fresh.setCell ?_ ?_ _ | with_reducible refine Fresh.trans ?_ (by assumption) | (simp; done) | (simp; omega))))).mono ?_; rintro e w1 ⟨rfl, h1⟩; have o5 := o5.later ((by (repeat' first | with_reducible exact Fresh.refl _ | with_reducible assumption | with_reducible refine Fresh.alloc ?_ _ _ | with_reducible refine Fresh.drew ?_ | with_reducible refine Fresh.setCell ?_ ?_ _ | with_reducible refine Fresh.trans ?_ (by assumption) | (simp; done) | (simp; omega))) : Fresh _ w1)))
  all_goals (try go_wp2)
  all_goals go_light
  all_goals go_returns
  all_goals refine ⟨by first | rfl | exact ret_bool (by simp; omega), ?_⟩
  all_goals (repeat' first | with_reducible exact Fresh.refl _ | with_reducible assumption | with_reducible refine Fresh.alloc ?_ _ _ | with_reducible refine Fresh.drew ?_ | with_reducible refine Fresh.setCell ?_ ?_ _ | with_reducible refine Fresh.trans ?_ (by assumption) | (simp; done) | (simp; omega))
set_option maxHeartbeats 1000000 in
theorem ends_none (M mb N : Nat) (f : Int → Option Value) (k n b : Int) (hb : Key b) (hv : atL f k b = .pointer none) (w : World) (h : Mm w M mb N f) :
    Calls Try.prog 51 #[.pointer (some ⟨M, 0, none⟩), .agg #[.int .i64 k, .int .u64 n, .int .i64 b]] w fun e w' => e = .returned (.bool false) ∧ Fresh w w' := by
  have o5 := Own.new' w k n b
  have H := Lib.hid (h.later ((Fresh.refl w).alloc #[.int .i64 k, .int .u64 n, .int .i64 b] 32))
  have HV := Lib.hid hv
  clear h hv
  go_enter Try.func51, Try.ntmps51
  go_wp2_with fail
  go_region_held3 (fun w' => w'.cell? ⟨w.heap.size, 0, none⟩ = some (.int .i64 k) ∧ w'.cell? ⟨w.heap.size, 1, none⟩ = some (.int .u64 n) ∧ w'.cell? ⟨w.heap.size, 2, none⟩ = some (.int .i64 b)) (exact own_cells (o5.later (by (repeat' first | with_reducible exact Fresh.refl _ | with_reducible assumption | with_reducible refine Fresh.alloc ?_ _ _ | with_reducible refine Fresh.drew ?_ | with_reducible refine Fresh.setCell ?_ ?_ _ | with_reducible refine Fresh.trans ?_ (by assumption) | (simp; done) | (simp; omega)))))
    (first | (go_at_call 61; refine (addressed_lit M mb N f _ _ _ hb _ HV.out _ (H.out.later (by (repeat' first | with_reducible exact Fresh.refl _ | with_reducible assumption | with_reducible refine Fresh.alloc ?_ _ _ | with_reducible refine Fresh.drew ?_ | with_reducible refine Fresh.setCell ?_ ?_ _ | with_reducible refine Fresh.trans ?_ (by assumption) | (simp; done) | (simp; omega))))).mono ?_; rintro e w1 ⟨rfl, h1⟩; have o5 := o5.later ((by (repeat' first | with_reducible exact Fresh.refl _ | with_reducible assumption | with_reducible refine Fresh.alloc ?_ _ _ | with_reducible refine Fresh.drew ?_ | with_reducible refine Fresh.setCell ?_ ?_ _ | with_reducible refine Fresh.trans ?_ (by assumption) | (simp; done) | (simp; omega))) : Fresh _ w1)))
  all_goals (try go_wp2)
  all_goals go_light
  all_goals go_returns
  all_goals refine ⟨by first | rfl | exact ret_bool (by simp; omega), ?_⟩
  all_goals (repeat' first | with_reducible exact Fresh.refl _ | with_reducible assumption | with_reducible refine Fresh.alloc ?_ _ _ | with_reducible refine Fresh.drew ?_ | with_reducible refine Fresh.setCell ?_ ?_ _ | with_reducible refine Fresh.trans ?_ (by assumption) | (simp; done) | (simp; omega))

variable {w w' : World} {M T : Nat} {L : Nat → Prop} {made : Int} {S : Int → Option BS} {R : List (Option RB)}
theorem in_rel (h : Mem w M T L made S) (hr : RelM S made R) (n b : Int) (hb : Key b) (x : Bool) (hx : inR R 4 n b = x) :
    Calls Try.prog 49 #[.pointer (some ⟨M, 0, none⟩), .agg #[.int .i64 4, .int .u64 n, .int .i64 b]] w fun e w' => e = .returned (.bool x) ∧ Fresh w w' := by
  obtain ⟨mb, N, f, o, h⟩ := h
  have hdef : inR R 4 n b = (match getR R b with | none => false | some r => decide (0 ≤ wrap64 n) && decide (wrap64 n < r.sz)) := rfl
  rw [hdef] at hx
  cases hg : getR R b with
  | none =>
    rw [hg] at hx
    subst hx
    have hS := hr.no b hg
    cases hB : f b with
    | none => exact in_none M mb N (blkV f) 4 n b hb (atL_none (Or.inr hB)) w h.rep.mm
    | some B => obtain ⟨s, hs, _⟩ := h.som b B hB; rw [hS] at hs; cases hs
  | some r =>
    rw [hg] at hx
    simp only at hx
    obtain ⟨s, hs, hR⟩ := hr.yes b r hg
    cases hB : f b with
    | none => have := h.non b hB; rw [hs] at this; cases this
    | some B =>
      obtain ⟨s', hs', hBlk⟩ := h.som b B hB
      obtain rfl : s = s' := by rw [hs] at hs'; injection hs'
      have hz := hR.sz
      by_cases h0 : 0 ≤ wrap64 n
      · by_cases h1 : wrap64 n < r.sz
        · rw [decide_eq_true h0, decide_eq_true h1] at hx
          subst hx
          exact in_ok M mb N (blkV f) 4 n b hb B s.sz (atL_some hB) h0 (by omega) w h.rep.mm hBlk.c0.1
        · rw [decide_eq_true h0, decide_eq_false h1] at hx
          subst hx
          exact in_far M mb N (blkV f) 4 n b hb B s.sz (atL_some hB) h0 (by omega) w h.rep.mm hBlk.c0.1
      · rw [decide_eq_false h0] at hx
        subst hx
        exact in_neg M mb N (blkV f) 4 n b hb B s.sz (atL_some hB) (by omega) w h.rep.mm hBlk.c0.1
theorem ends_rel (h : Mem w M T L made S) (hr : RelM S made R) (n b : Int) (hb : Key b) (x : Bool) (hx : endsR R n b = x) :
    Calls Try.prog 51 #[.pointer (some ⟨M, 0, none⟩), .agg #[.int .i64 4, .int .u64 n, .int .i64 b]] w fun e w' => e = .returned (.bool x) ∧ Fresh w w' := by
  obtain ⟨mb, N, f, o, h⟩ := h
  have hdef : endsR R n b = (match getR R b with | none => false | some r => decide (0 ≤ wrap64 n) && decide (wrap64 n ≤ r.sz)) := rfl
  rw [hdef] at hx
  cases hg : getR R b with
  | none =>
    rw [hg] at hx
    subst hx
    have hS := hr.no b hg
    cases hB : f b with
    | none => exact ends_none M mb N (blkV f) 4 n b hb (atL_none (Or.inr hB)) w h.rep.mm
    | some B => obtain ⟨s, hs, _⟩ := h.som b B hB; rw [hS] at hs; cases hs
  | some r =>
    rw [hg] at hx
    simp only at hx
    obtain ⟨s, hs, hR⟩ := hr.yes b r hg
    cases hB : f b with
    | none => have := h.non b hB; rw [hs] at this; cases this
    | some B =>
      obtain ⟨s', hs', hBlk⟩ := h.som b B hB
      obtain rfl : s = s' := by rw [hs] at hs'; injection hs'
      have hz := hR.sz
      by_cases h0 : 0 ≤ wrap64 n
      · by_cases h1 : wrap64 n ≤ r.sz
        · rw [decide_eq_true h0, decide_eq_true h1] at hx
          subst hx
          exact ends_ok M mb N (blkV f) 4 n b hb B s.sz (atL_some hB) h0 (by omega) w h.rep.mm hBlk.c0.1
        · rw [decide_eq_true h0, decide_eq_false h1] at hx
          subst hx
          exact ends_far M mb N (blkV f) 4 n b hb B s.sz (atL_some hB) h0 (by omega) w h.rep.mm hBlk.c0.1
      · rw [decide_eq_false h0] at hx
        subst hx
        exact ends_neg M mb N (blkV f) 4 n b hb B s.sz (atL_some hB) (by omega) w h.rep.mm hBlk.c0.1
theorem ordered_any (o : Int) (ho : -9223372036854775808 ≤ o ∧ o ≤ 9223372036854775807) (x : Bool) (hx : (decide (48 ≤ o) && decide (o ≤ 55)) = x) (w : World) : Calls Try.prog 53 #[.int .i64 o] w fun e w' => e = .returned (.bool x) ∧ w = w' := by
  subst hx
  go_enter Try.func53, Try.ntmps53
  go_wp2
  all_goals (go_returns; go_light)
  all_goals unfold wrap64 at *
  all_goals exact ⟨ret_bool (by rw [Bool.eq_iff_iff]; simp only [Bool.and_eq_true, Bool.or_eq_true, decide_eq_true_eq, Bool.false_eq_true, iff_true, iff_false, true_iff, false_iff]; omega), rfl⟩
end Go.Proofs.Ytjbflmpnmobngaa
