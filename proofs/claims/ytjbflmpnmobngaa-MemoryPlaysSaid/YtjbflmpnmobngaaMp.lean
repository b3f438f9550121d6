/- A pointer that is stored. -/
import Derived.Test.YtjbflmpnmobngaaMo
namespace Go.Proofs.Ytjbflmpnmobngaa
set_option linter.unusedSimpArgs false
set_option linter.unusedVariables false
open Go.RowKit

variable {w w' : World} {B : Nat} {sz : Int} {fx : Bool} {pg pt : Option Nat} {n1 n2 T : Nat} {row : Int → Option Nat} {cell : Nat → Int} {ptr : Int → Option (Int × Int × Int)} {own : Nat → Prop}
set_option maxHeartbeats 400000 in
set_option maxRecDepth 100000 in
theorem store_ptr (M : Nat) (c k n b n' b' : Int) (off N : Nat) (hf : fitsL c 4 = true) (hre : Goes M c k n b B off w) (hR : BRep w B sz false pg pt n1 n2 row cell ptr) (hS : Sep w B pg pt row) (hN1 : n1 ≤ N) (hN2 : n2 ≤ N) (hN : N < maxLen) (hc6 : c = 6) (hin : off % 4096 + 8 ≤ 4096) (hoff : (off : Int) + 8 ≤ sz) :
    Calls Try.prog 17 #[.pointer (some ⟨M, 0, none⟩), .int .i64 c, .agg #[.int .i64 k, .int .u64 n, .int .i64 b], .agg #[.int .i64 4, .int .u64 n', .int .i64 b']] w (Stored B sz false N (emptyC cell off 8) (putP (delP ptr ((off : Int) - (off : Int) % 8)) off (4, n', b')) (owns B pg pt row) w) := by
  have HR := Lib.hid hre
  have HB := Lib.hid hR
  have HS := Lib.hid hS
  have HF := Lib.hid hf

  have HH : Hid (off % 4096 + 8 ≤ 4096 ∧ (off : Int) + 8 ≤ sz) := Lib.hid ⟨hin, hoff⟩
  have HN : Hid (n1 ≤ N ∧ n2 ≤ N ∧ N < maxLen) := Lib.hid ⟨hN1, hN2, hN⟩
  clear hre hR hS hf hin hoff hN1 hN2 hN hc6
  go_enter Try.func17, Try.ntmps17
  go_wp2_with (first | (go_at_call 33; refine (HR.out _ (by (repeat' first | with_reducible exact Fresh.refl _ | with_reducible assumption | with_reducible refine Fresh.alloc ?_ _ _ | with_reducible refine Fresh.drew ?_ | with_reducible refine Fresh.setCell ?_ ?_ _ | with_reducible refine Fresh.trans ?_ (by assumption) | (simp; done) | (simp; omega)))).mono ?_; rintro e w1 ⟨rfl, h1⟩; obtain ⟨c1, f1⟩ := h1.cells; have z10 := h1.z (n := w.heap.size) (by first | assumption | (simp; done) | (simp; assumption) | (simp; omega)); have z11 := h1.z (n := w.heap.size + 1) (by first | assumption | (simp; done) | (simp; assumption) | (simp; omega)); have hw1 := (by (repeat' first | with_reducible exact Fresh.refl _ | with_reducible assumption | with_reducible refine Fresh.alloc ?_ _ _ | with_reducible refine Fresh.drew ?_ | with_reducible refine Fresh.setCell ?_ ?_ _ | with_reducible refine Fresh.trans ?_ (by assumption) | (simp; done) | (simp; omega)) : Fresh w w1); have p1 := (HB.out.later hw1).c1; have RB := Lib.hid (HB.out.later hw1); have RS := Lib.hid (HS.out.later HB.out hw1)) | (go_at_call 41; refine (fits_lit _ _ _ HF.out _).mono ?_; rintro e w' ⟨rfl, rfl⟩) | (go_at_call 43; refine Calls.mono (point_left off N 4 n' b' HN.out.1 HN.out.2.1 HN.out.2.2 HH.out.1 HH.out.2 RB.out RS.out) ?_; rintro e w2 ⟨rfl, hl⟩))
  all_goals go_light
  all_goals go_returns
  all_goals exact ⟨rfl, hl.back hw1⟩
end Go.Proofs.Ytjbflmpnmobngaa
