/- What the document's own answers give of shifts and of doubles: the same as mach's. -/
import Derived.Test.YtopnbdblgfjnpaaS
namespace Go.Proofs.Ytopnbdblgfjnpaa
set_option linter.unusedSimpArgs false
set_option linter.unusedVariables false
open Go.RowKit

theorem ret_val3 {k n b k' n' : Int} (h : k' = k) (h2 : n' = n) : Ending.returned (.agg #[.int .i64 k, .int .u64 n, .int .i64 b]) = Ending.returned (.agg #[.int .i64 k', .int .u64 n', .int .i64 b]) := by rw [h, h2]
theorem shiftN {n : Int} (h0 : 0 ≤ n) (h : n < 64) : wrap64 (wrap32 n) = n := by unfold wrap64 wrap32; omega
theorem whole64_shift (o x y : Int) (h1 : 13 ≤ o) (h2 : o ≤ 15) : whole64 o x y = shiftT64 o x y := by
  have hs : isShiftL o = true := by have h : o = 13 ∨ o = 14 ∨ o = 15 := by omega
                                    rcases h with rfl | rfl | rfl <;> rfl
  unfold whole64
  rw [if_neg (by omega), if_neg (by omega), if_pos hs]
theorem whole32_shift (o x y : Int) (h1 : 13 ≤ o) (h2 : o ≤ 15) : whole32 o x y = shiftT32 o x y := by
  have hs : isShiftL o = true := by have h : o = 13 ∨ o = 14 ∨ o = 15 := by omega
                                    rcases h with rfl | rfl | rfl <;> rfl
  unfold whole32
  rw [if_neg (by omega), if_neg (by omega), if_pos hs]
/-- What the document's own shift of 32 bits leaves: cut to 32 bits it is mach's. -/
def S32 (o x y : Int) (w : World) (e : Ending) (w' : World) : Prop :=
  ∃ r : Int, e = .returned (.tuple #[.int .u64 r, .bool (shiftT32 o (x % 4294967296) (y % 4294967296)).2]) ∧ ((shiftT32 o (x % 4294967296) (y % 4294967296)).2 = true → r % 4294967296 = (shiftT32 o (x % 4294967296) (y % 4294967296)).1) ∧ Fresh w w'
theorem S32_mk {o x y r : Int} {c : Bool} {w w' : World} (h1 : c = (shiftT32 o (x % 4294967296) (y % 4294967296)).2) (h2 : c = true → r % 4294967296 = (shiftT32 o (x % 4294967296) (y % 4294967296)).1) (hf : Fresh w w') : S32 o x y w (.returned (.tuple #[.int .u64 r, .bool c])) w' :=
  ⟨r, by rw [h1], fun h => h2 (by rw [h1, h]), hf⟩
theorem div_pow_lt {x : Int} (a : 0 ≤ x) (b : x < 4294967296) (k : Nat) : x / 2 ^ k % 4294967296 = x / 2 ^ k := by
  have hp : (0 : Int) < 2 ^ k := Int.pow_pos (by decide)
  have h1 : 0 ≤ x / 2 ^ k := Int.ediv_nonneg a (by omega)
  have h2 : x / 2 ^ k ≤ x := Int.ediv_le_self _ a
  omega
theorem rshift64_any (o x n b : Int) (h1 : 13 ≤ o) (h2 : o ≤ 15) (w : World) :
    Calls Try.prog 44 #[.int .i64 o, .int .u64 x, .agg #[.int .i64 1, .int .u64 n, .int .i64 b], .int .i64 64] w fun e w' => e = .returned (.tuple #[.int .u64 (shiftT64 o x (n % 4294967296)).1, .bool (shiftT64 o x (n % 4294967296)).2]) ∧ Fresh w w' := by
  have hN : 0 ≤ n % 4294967296 := by omega
  by_cases hn : n % 4294967296 < 64
  · have e := shiftN hN (by omega)
    go_enter Try.func44, Try.ntmps44
    go_wp2_with ((go_at_call 40; refine (ri32_any _ _ _ _).mono ?_; rintro e w' ⟨rfl, rfl⟩))
    all_goals (go_returns; go_light)
    all_goals exact ⟨ret_pair (by simp (disch := omega) [shiftT64, shift64, if_pos, if_neg, *]), by (repeat' first | with_reducible exact Fresh.refl _ | with_reducible assumption | with_reducible refine Fresh.alloc ?_ _ _ | with_reducible refine Fresh.drew ?_ | with_reducible refine Fresh.setCell ?_ ?_ _ | with_reducible refine Fresh.trans ?_ (by assumption) | (simp; done) | (simp; omega))⟩
  · by_cases hi : wrap64 (wrap32 (n % 4294967296)) < 0
    · go_enter Try.func44, Try.ntmps44
      go_wp2_with ((go_at_call 40; refine (ri32_any _ _ _ _).mono ?_; rintro e w' ⟨rfl, rfl⟩))
      all_goals (go_returns; go_light)
      all_goals exact ⟨ret_pair (by simp (disch := omega) [shiftT64, if_neg]), by (repeat' first | with_reducible exact Fresh.refl _ | with_reducible assumption | with_reducible refine Fresh.alloc ?_ _ _ | with_reducible refine Fresh.drew ?_ | with_reducible refine Fresh.setCell ?_ ?_ _ | with_reducible refine Fresh.trans ?_ (by assumption) | (simp; done) | (simp; omega))⟩
    · have hj : 64 ≤ wrap64 (wrap32 (n % 4294967296)) := by unfold wrap64 wrap32 at *; omega
      go_enter Try.func44, Try.ntmps44
      go_wp2_with ((go_at_call 40; refine (ri32_any _ _ _ _).mono ?_; rintro e w' ⟨rfl, rfl⟩))
      all_goals (go_returns; go_light)
      all_goals exact ⟨ret_pair (by simp (disch := omega) [shiftT64, if_neg]), by (repeat' first | with_reducible exact Fresh.refl _ | with_reducible assumption | with_reducible refine Fresh.alloc ?_ _ _ | with_reducible refine Fresh.drew ?_ | with_reducible refine Fresh.setCell ?_ ?_ _ | with_reducible refine Fresh.trans ?_ (by assumption) | (simp; done) | (simp; omega))⟩
theorem rshift32_any (o x n b : Int) (h1 : 13 ≤ o) (h2 : o ≤ 15) (w : World) :
    Calls Try.prog 44 #[.int .i64 o, .int .u64 x, .agg #[.int .i64 1, .int .u64 n, .int .i64 b], .int .i64 32] w (S32 o x n w) := by
  have hX : 0 ≤ x % 4294967296 := by omega
  have hX' : x % 4294967296 < 4294967296 := by omega
  have hw64 := wrap64_32 (x % 4294967296)
  have hN : 0 ≤ n % 4294967296 := by omega
  by_cases hn : n % 4294967296 < 32
  · have e := shiftN hN (by omega)
    go_enter Try.func44, Try.ntmps44
    go_wp2_with ((go_at_call 40; refine (ri32_any _ _ _ _).mono ?_; rintro e w' ⟨rfl, rfl⟩))
    all_goals (go_returns; go_light)
    all_goals exact S32_mk (by simp (disch := omega) [shiftT32, if_pos]) (fun _ => by simp (disch := omega) [shiftT32, shift32, if_pos, if_neg, *]; try first | (rw [IntKind.wrap_u64, Int.emod_emod_of_dvd _ (by decide)]; done) | exact div_pow_lt hX hX' _) (by (repeat' first | with_reducible exact Fresh.refl _ | with_reducible assumption | with_reducible refine Fresh.alloc ?_ _ _ | with_reducible refine Fresh.drew ?_ | with_reducible refine Fresh.setCell ?_ ?_ _ | with_reducible refine Fresh.trans ?_ (by assumption) | (simp; done) | (simp; omega)))
  · by_cases hi : wrap64 (wrap32 (n % 4294967296)) < 0
    · go_enter Try.func44, Try.ntmps44
      go_wp2_with ((go_at_call 40; refine (ri32_any _ _ _ _).mono ?_; rintro e w' ⟨rfl, rfl⟩))
      all_goals (go_returns; go_light)
      all_goals exact S32_mk (by simp (disch := omega) [shiftT32, if_neg]) (fun h => Bool.noConfusion h) (by (repeat' first | with_reducible exact Fresh.refl _ | with_reducible assumption | with_reducible refine Fresh.alloc ?_ _ _ | with_reducible refine Fresh.drew ?_ | with_reducible refine Fresh.setCell ?_ ?_ _ | with_reducible refine Fresh.trans ?_ (by assumption) | (simp; done) | (simp; omega)))
    · have hj : 32 ≤ wrap64 (wrap32 (n % 4294967296)) := by unfold wrap64 wrap32 at *; omega
      go_enter Try.func44, Try.ntmps44
      go_wp2_with ((go_at_call 40; refine (ri32_any _ _ _ _).mono ?_; rintro e w' ⟨rfl, rfl⟩))
      all_goals (go_returns; go_light)
      all_goals exact S32_mk (by simp (disch := omega) [shiftT32, if_neg]) (fun h => Bool.noConfusion h) (by (repeat' first | with_reducible exact Fresh.refl _ | with_reducible assumption | with_reducible refine Fresh.alloc ?_ _ _ | with_reducible refine Fresh.drew ?_ | with_reducible refine Fresh.setCell ?_ ?_ _ | with_reducible refine Fresh.trans ?_ (by assumption) | (simp; done) | (simp; omega)))
def dblKind (o : Int) : Int := if o ≤ 65 then 3 else 1
theorem rdoubles_any (o : Int) (x y : Nat) (ho : 62 ≤ o) (ho' : o ≤ 71) (w : World) :
    Calls Try.prog 37 #[.int .i64 o, .float .f64 x, .float .f64 y] w fun e w' => e = .returned (.agg #[.int .i64 (dblKind o), .int .u64 (doublesL o x y), .int .i64 0]) ∧ Fresh w w' := by
  obtain ⟨r1, w1, e1, d1, h1⟩ := run_farith .add (by simp) x y (w.alloc (.cells #[.int .i64 0, .int .u64 0, .int .i64 0] 24))
  obtain ⟨c1, f1⟩ := h1.cells
  have z1a := h1.z (n := w.heap.size) (by simp)
  obtain ⟨r2, w2, e2, d2, h2⟩ := run_farith .sub (by simp) x y (w.alloc (.cells #[.int .i64 0, .int .u64 0, .int .i64 0] 24))
  obtain ⟨c2, f2⟩ := h2.cells
  have z2a := h2.z (n := w.heap.size) (by simp)
  obtain ⟨r3, w3, e3, d3, h3⟩ := run_farith .mul (by simp) x y (w.alloc (.cells #[.int .i64 0, .int .u64 0, .int .i64 0] 24))
  obtain ⟨c3, f3⟩ := h3.cells
  have z3a := h3.z (n := w.heap.size) (by simp)
  obtain ⟨r4, w4, e4, d4, h4⟩ := run_farith .quo (by simp) x y (w.alloc (.cells #[.int .i64 0, .int .u64 0, .int .i64 0] 24))
  obtain ⟨c4, f4⟩ := h4.cells
  have z4a := h4.z (n := w.heap.size) (by simp)
  go_enter Try.func37, Try.ntmps37
  go_wp2_with (first | (go_at_call 48; refine (rDbl_any _ _).mono ?_; rintro e w5 ⟨rfl, h5⟩; obtain ⟨c5, f5⟩ := h5.cells; have z5a := h5.z (n := w.heap.size) (by first | assumption | (simp; done) | (simp; assumption) | (simp; omega))) | (go_at_call 42; refine (yes_any _ _).mono ?_; rintro e w5 ⟨rfl, h5⟩; obtain ⟨c5, f5⟩ := h5.cells; have z5a := h5.z (n := w.heap.size) (by first | assumption | (simp; done) | (simp; assumption) | (simp; omega))))
  all_goals go_light
  all_goals first | (refine bodyPost_ret (v := ?_) ?_ rfl ?_; rotate_left 1; focus (simp [results, Try.results37, go_sem, *]; (try rfl); done)) | go_returns
  all_goals exact ⟨ret_val3 (by simp (disch := omega) [dblKind, if_pos, if_neg, beq_iff_eq, *] <;> (simp only [beq_iff_eq, beq_eq_false_iff_ne] at *; omega)) (by first | (simp [doublesL, *]; done) | ((obtain rfl : o = 66 := by (simp only [beq_iff_eq, beq_eq_false_iff_ne] at *; omega)); simp [doublesL, fcompareL]; done) | ((obtain rfl : o = 67 := by (simp only [beq_iff_eq, beq_eq_false_iff_ne] at *; omega)); simp [doublesL, fcompareL]; done) | ((obtain rfl : o = 68 := by (simp only [beq_iff_eq, beq_eq_false_iff_ne] at *; omega)); simp [doublesL, fcompareL]; done) | ((obtain rfl : o = 69 := by (simp only [beq_iff_eq, beq_eq_false_iff_ne] at *; omega)); simp [doublesL, fcompareL]; done) | ((obtain rfl : o = 70 := by (simp only [beq_iff_eq, beq_eq_false_iff_ne] at *; omega)); simp [doublesL, fcompareL]; done) | ((obtain rfl : o = 71 := by (simp only [beq_iff_eq, beq_eq_false_iff_ne] at *; omega)); simp [doublesL, fcompareL]; done)), by (repeat' first | with_reducible exact Fresh.refl _ | with_reducible assumption | with_reducible refine Fresh.alloc ?_ _ _ | with_reducible refine Fresh.drew ?_ | with_reducible refine Fresh.setCell ?_ ?_ _ | with_reducible refine Fresh.trans ?_ (by assumption) | (simp; done) | (simp; omega))⟩
end Go.Proofs.Ytopnbdblgfjnpaa
