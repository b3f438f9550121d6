/- A number that is stored. -/
import Derived.Test.YtjbflmpnmobngaaMo
namespace Go.Proofs.Ytjbflmpnmobngaa
set_option linter.unusedSimpArgs false
set_option linter.unusedVariables false
open Go.RowKit

variable {w w' : World} {B : Nat} {sz : Int} {fx : Bool} {pg pt : Option Nat} {n1 n2 T : Nat} {row : Int → Option Nat} {cell : Nat → Int} {ptr : Int → Option (Int × Int × Int)} {own : Nat → Prop}
theorem Left.cellOf {N : Nat} {cell' : Nat → Int} {ptr' : Int → Option (Int × Int × Int)} {F : Nat → Prop} {w1 : World} (h : Left B sz fx N cell' ptr' F w1 w') {a : Addr} {v : Value} (hn : ¬ F a.block) (hc : w1.cell? a = some v) : w'.cell? a = some v := by
  obtain ⟨pg', pt', n1', n2', row', h1, h2, h3, h4, h5, h6⟩ := h
  exact h6.cellOf hn hc
set_option maxHeartbeats 400000 in
set_option maxRecDepth 100000 in
theorem store_num (M : Nat) (c k n b k' n' b' : Int) (hx : 0 ≤ n') (hk0 : (k' == 0) = false) (hk4 : (k' == 4) = false) (off m N : Nat) (hf : fitsL c k' = true) (hre : Goes M c k n b B off w) (hR : BRep w B sz false pg pt n1 n2 row cell ptr) (hS : Sep w B pg pt row) (hN1 : n1 ≤ N) (hN2 : n2 ≤ N) (hN : N < maxLen) (hc : sizeL c = (m : Int)) (hm : m ≤ 8) (hin : off % 4096 + m ≤ 4096) (hoff : (off : Int) + m ≤ sz) (hm0 : 0 < m) :
    Calls Try.prog 17 #[.pointer (some ⟨M, 0, none⟩), .int .i64 c, .agg #[.int .i64 k, .int .u64 n, .int .i64 b], .agg #[.int .i64 k', .int .u64 n', .int .i64 b']] w (Stored B sz false N (putC cell off m n') (delP ptr ((off : Int) - (off : Int) % 8)) (owns B pg pt row) w) := by
  have HR := Lib.hid hre
  have HB := Lib.hid hR
  have HS := Lib.hid hS
  have HF := Lib.hid hf
  have HC := Lib.hid hc
  have HH : Hid (m ≤ 8 ∧ off % 4096 + m ≤ 4096 ∧ (off : Int) + m ≤ sz ∧ 0 < m) := Lib.hid ⟨hm, hin, hoff, hm0⟩
  have HN : Hid (n1 ≤ N ∧ n2 ≤ N ∧ N < maxLen) := Lib.hid ⟨hN1, hN2, hN⟩
  have HX := Lib.hid hx
  have HO : Hid (∀ k, owns B pg pt row k → k < w.heap.size) := Lib.hid (fun k hk => owns_lt hR hS hk)
  clear hx
  clear hre hR hS hf hc hm hin hoff hm0 hN1 hN2 hN
  go_enter Try.func17, Try.ntmps17
  go_wp2_with (first | (go_at_call 33; refine (HR.out _ (by (repeat' first | with_reducible exact Fresh.refl _ | with_reducible assumption | with_reducible refine Fresh.alloc ?_ _ _ | with_reducible refine Fresh.drew ?_ | with_reducible refine Fresh.setCell ?_ ?_ _ | with_reducible refine Fresh.trans ?_ (by assumption) | (simp; done) | (simp; omega)))).mono ?_; rintro e w1 ⟨rfl, h1⟩; obtain ⟨c1, f1⟩ := h1.cells; have z10 := h1.z (n := w.heap.size) (by first | assumption | (simp; done) | (simp; assumption) | (simp; omega)); have z11 := h1.z (n := w.heap.size + 1) (by first | assumption | (simp; done) | (simp; assumption) | (simp; omega)); have hw1 := (by (repeat' first | with_reducible exact Fresh.refl _ | with_reducible assumption | with_reducible refine Fresh.alloc ?_ _ _ | with_reducible refine Fresh.drew ?_ | with_reducible refine Fresh.setCell ?_ ?_ _ | with_reducible refine Fresh.trans ?_ (by assumption) | (simp; done) | (simp; omega)) : Fresh w w1); have p1 := (HB.out.later hw1).c1; have RB := Lib.hid (HB.out.later hw1); have RS := Lib.hid (HS.out.later HB.out hw1)) | (go_at_call 41; refine (fits_lit _ _ _ HF.out _).mono ?_; rintro e w' ⟨rfl, rfl⟩) | (go_at_call 26; refine (size_lit _ _ HC.out _).mono ?_; rintro e w' ⟨rfl, rfl⟩))
  have RB2 := Lib.hid (RB.out.later (Fresh.refl w1).drew)
  have RS2 := Lib.hid (RS.out.later RB.out (Fresh.refl w1).drew)
  have a5 : w1.cell? ⟨w.heap.size + 1, 1, none⟩ = some (.int .u64 n') := by simp [go_sem, *]
  go_region_held3 (fun w' => w'.cell? ⟨w.heap.size + 1, 1, none⟩ = some (.int .u64 n')) (first | assumption | exact a5)
    (first | (go_at_call 26; refine (size_lit _ _ HC.out _).mono ?_; rintro e w' ⟨rfl, rfl⟩) | (go_at_call 44; refine (put_left off m N _ n' HX.out rfl HN.out.1 HN.out.2.1 HN.out.2.2 HH.out.1 HH.out.2.1 HH.out.2.2.1 HH.out.2.2.2 RB2.out RS2.out).mono ?_; rintro e w2 ⟨rfl, hl⟩; have k5 := hl.cellOf (a := ⟨w.heap.size + 1, 1, none⟩) (fun hk => absurd (HO.out _ hk) (by simp)) a5))
  all_goals go_wp2
  all_goals go_light
  all_goals go_returns
  all_goals exact ⟨rfl, hl.back (by (repeat' first | with_reducible exact Fresh.refl _ | with_reducible assumption | with_reducible refine Fresh.alloc ?_ _ _ | with_reducible refine Fresh.drew ?_ | with_reducible refine Fresh.setCell ?_ ?_ _ | with_reducible refine Fresh.trans ?_ (by assumption) | (simp; done) | (simp; omega)))⟩
end Go.Proofs.Ytjbflmpnmobngaa
