/- The document's own answer of two operands with a pointer among them is mach's. -/
import Derived.Test.YtopnbdblgfjnpaaP
import Derived.Test.YtopnbdblgfjnpaaQ
namespace Go.Proofs.Ytopnbdblgfjnpaa
set_option linter.unusedSimpArgs false
set_option linter.unusedVariables false
open Go.RowKit

theorem wrap_sub (x y : Int) : wrap64 (wrap64 x - wrap64 y) = wrap64 (IntKind.u64.wrap (x - y)) := by rw [IntKind.wrap_u64]; unfold wrap64; omega
theorem wrap_add (x y : Int) : wrap64 (wrap64 x + wrap64 y) = wrap64 (IntKind.u64.wrap (x + y)) := by rw [IntKind.wrap_u64]; unfold wrap64; omega
theorem wrap_add' (x y : Int) : wrap64 (wrap64 x + wrap64 y) = wrap64 (IntKind.u64.wrap (x + y)) := wrap_add x y
theorem beq64 {n n' : Int} (a : 0 ≤ n) (b : n < 18446744073709551616) (c : 0 ≤ n') (d : n' < 18446744073709551616) : (n == n') = (wrap64 n == wrap64 n') := by
  rw [Bool.eq_iff_iff]; simp only [beq_iff_eq]; unfold wrap64; omega
theorem le_of (x y : Int) : decide (x ≤ y) = (decide (x < y) || x == y) := by rw [Bool.eq_iff_iff]; simp; omega
theorem gt_of (x y : Int) : decide (y < x) = (!decide (x < y) && !(x == y)) := by rw [Bool.eq_iff_iff]; simp; omega
theorem ge_of (x y : Int) : decide (y ≤ x) = !decide (x < y) := by rw [Bool.eq_iff_iff]; simp
theorem compare_signed (o x y : Int) (h1 : 16 ≤ o) (h2 : o ≤ 21) : comparedL o (decide (x < y)) (x == y) = compareL o x y := by
  have h : o = 16 ∨ o = 17 ∨ o = 18 ∨ o = 19 ∨ o = 20 ∨ o = 21 := by omega
  rcases h with rfl | rfl | rfl | rfl | rfl | rfl
  · rfl
  · rfl
  · rfl
  · exact (le_of x y).symm
  · exact (gt_of x y).symm
  · exact (ge_of x y).symm
theorem compare_unsigned (o x y : Int) (h1 : 22 ≤ o) (h2 : o ≤ 25) : comparedL o (decide (x < y)) (x == y) = compareL (o - 22 + 18) x y := by
  have h : o = 22 ∨ o = 23 ∨ o = 24 ∨ o = 25 := by omega
  rcases h with rfl | rfl | rfl | rfl
  · rfl
  · exact (le_of x y).symm
  · exact (gt_of x y).symm
  · exact (ge_of x y).symm
theorem valok_mono {f : FuncId} {args : Array Value} {w : World} {p q : (Int × Int × Int) × Bool} (h : Calls Try.prog f args w fun e w' => e = .returned (.tuple #[.agg #[.int .i64 (p).1.1, .int .u64 (p).1.2.1, .int .i64 (p).1.2.2], .bool (p).2]) ∧ Fresh w w') (e : q = p) :
    Calls Try.prog f args w fun e w' => e = .returned (.tuple #[.agg #[.int .i64 (q).1.1, .int .u64 (q).1.2.1, .int .i64 (q).1.2.2], .bool (q).2]) ∧ Fresh w w' := by rw [e]; exact h

theorem rpointers_any (o k n b k' n' b' : Int) (h1 : 1 ≤ o) (h2 : o ≤ 25) (hk : k = 4 ∨ k' = 4) (hn : 0 ≤ n) (hN : n < 18446744073709551616) (hn' : 0 ≤ n') (hN' : n' < 18446744073709551616) (w : World) :
    Calls Try.prog 36 #[.int .i64 o, .agg #[.int .i64 k, .int .u64 n, .int .i64 b], .agg #[.int .i64 k', .int .u64 n', .int .i64 b']] w fun e w' => e = .returned (.tuple #[.agg #[.int .i64 (pointersL (o + 30) k n b k' n' b').1.1, .int .u64 (pointersL (o + 30) k n b k' n' b').1.2.1, .int .i64 (pointersL (o + 30) k n b k' n' b').1.2.2], .bool (pointersL (o + 30) k n b k' n' b').2]) ∧ Fresh w w' := by
  have q34 : o ≠ 4 → ((o + 30 == 34) = false) := fun h => by simp; omega
  have q33 : o ≠ 3 → ((o + 30 == 33) = false) := fun h => by simp; omega
  have q46 : o ≠ 16 → ((o + 30 == 46) = false) := fun h => by simp; omega
  have q47 : o ≠ 17 → ((o + 30 == 47) = false) := fun h => by simp; omega
  have bf : ∀ {x c : Int}, x ≠ c → (x == c) = false := fun h => by simpa using h
  have bt : ∀ {x c : Int}, x ≠ c → (x != c) = true := fun h => by simpa using h
  by_cases hk4 : k = 4
  · subst hk4
    by_cases hb : b = 0
    · subst hb; exact valok_mono (rp_c1 o n k' n' b' w) (by simp [pointersL, nowhereL])
    by_cases hk4' : k' = 4
    · subst hk4'
      by_cases hb' : b' = 0
      · subst hb'; exact valok_mono (rp_c2a o n b n' (bf hb) w) (by simp [pointersL, nowhereL])
      by_cases hbb : b = b'
      · subst hbb
        by_cases ho : o = 4
        · subst ho
          exact valok_mono (rp_c4s n n' b (bf hb) w) (by simp [pointersL, nowhereL, hb, twoL, wrap_sub])
        by_cases hu : 22 ≤ o
        · refine valok_mono (p := ((1, flagL (comparedL o (decide (n < n')) (n == n')), 0), true)) (rp_c4u o n n' b (bf hb) hu h2 (bf ho) w) ?_
          have e : whole64 (o + 30 - 30) n n' = (flagL (compareL (o - 22 + 18) n n'), true) := by
            rw [show o + 30 - 30 = o by omega]; unfold whole64; rw [if_pos hu]
          simp only [pointersL, nowhereL, twoL, q34 ho, e, compare_unsigned o n n' hu h2]
          rw [if_neg (by simp [hb]), if_pos (by simp), if_neg (by simp), if_neg (by simp), if_pos (by omega)]
          rfl
        by_cases hc : 16 ≤ o
        · refine valok_mono (p := ((1, flagL (comparedL o (decide (wrap64 n < wrap64 n')) (n == n')), 0), true)) (rp_c4c o n n' b (bf hb) hc (by omega) (bf ho) w) ?_
          have e : whole64 (o + 30 - 30) n n' = (flagL (compareL o (wrap64 n) (wrap64 n')), true) := by
            rw [show o + 30 - 30 = o by omega]; unfold whole64; rw [if_neg hu, if_pos hc]
          simp only [pointersL, nowhereL, twoL, q34 ho, e, beq64 hn hN hn' hN', compare_signed o _ _ hc (show o ≤ 21 by omega)]
          rw [if_neg (by simp [hb]), if_pos (by simp), if_neg (by simp), if_neg (by simp), if_pos (by omega)]
          rfl
        · refine valok_mono (rp_c4n o n n' b (bf hb) (by omega) (bf ho) w) ?_
          simp only [pointersL, nowhereL, twoL, q34 ho]
          rw [if_neg (by simp [hb]), if_pos (by simp), if_neg (by simp), if_neg (by simp), if_neg (by omega)]
      · refine valok_mono (rp_c3 o n b n' b' (bf hb) (bf hb') (bt hbb) w) ?_
        simp [pointersL, nowhereL, hb, hb', twoL, hbb]
    by_cases hk2 : k' = 2
    · subst hk2
      by_cases o3 : o = 3
      · subst o3; exact valok_mono (rp_c5a n b n' b' (bf hb) w) (by simp [pointersL, nowhereL, hb, palL, wrap_add])
      by_cases o4 : o = 4
      · subst o4; exact valok_mono (rp_c5s n b n' b' (bf hb) w) (by simp [pointersL, nowhereL, hb, palL, wrap_sub])
      by_cases o16 : o = 16
      · subst o16
        by_cases hz : n' = 0
        · subst hz; exact valok_mono (p := ((1, 0, 0), true)) (rp_c5e16 n b b' (bf hb) w) (by simp [pointersL, nowhereL, hb, palL, intL])
        · exact valok_mono (rp_c5f16 n b n' b' (bf hb) (bf hz) w) (by simp [pointersL, nowhereL, hb, palL, hz, noneL])
      by_cases o17 : o = 17
      · subst o17
        by_cases hz : n' = 0
        · subst hz; exact valok_mono (p := ((1, 1, 0), true)) (rp_c5e17 n b b' (bf hb) w) (by simp [pointersL, nowhereL, hb, palL, intL])
        · exact valok_mono (rp_c5f17 n b n' b' (bf hb) (bf hz) w) (by simp [pointersL, nowhereL, hb, palL, hz, noneL])
      exact valok_mono (rp_c5n o n b n' b' (bf hb) (bf o3) (bf o4) (bf o16) (bf o17) w) (by simp [pointersL, nowhereL, hb, palL, noneL, q33 o3, q34 o4, q46 o16, q47 o17, bf o3, bf o4])
    · exact valok_mono (rp_c5k o n b k' n' b' (bf hb) (bf hk4') (bt hk2) w) (by simp [pointersL, nowhereL, hb, hk4', hk2])
  · have hk4' : k' = 4 := by omega
    subst hk4'
    by_cases hb : b' = 0
    · subst hb; exact valok_mono (rp_c2b o k n b n' (bf hk4) w) (by simp [pointersL, nowhereL])
    by_cases hk2 : k = 2
    · subst hk2
      by_cases o3 : o = 3
      · subst o3; exact valok_mono (rp_c6a n b n' b' (bf hb) w) (by simp [pointersL, nowhereL, hb, palL, wrap_add])
      by_cases o16 : o = 16
      · subst o16
        by_cases hz : n = 0
        · subst hz; exact valok_mono (p := ((1, 0, 0), true)) (rp_c6e16 b n' b' (bf hb) w) (by simp [pointersL, nowhereL, hb, palL, intL])
        · exact valok_mono (rp_c6f16 n b n' b' (bf hb) (bf hz) w) (by simp [pointersL, nowhereL, hb, palL, hz, noneL])
      by_cases o17 : o = 17
      · subst o17
        by_cases hz : n = 0
        · subst hz; exact valok_mono (p := ((1, 1, 0), true)) (rp_c6e17 b n' b' (bf hb) w) (by simp [pointersL, nowhereL, hb, palL, intL])
        · exact valok_mono (rp_c6f17 n b n' b' (bf hb) (bf hz) w) (by simp [pointersL, nowhereL, hb, palL, hz, noneL])
      by_cases o4 : o = 4
      · subst o4; exact valok_mono (rp_c6n 4 n b n' b' (bf hb) (by decide) (by decide) (by decide) w) (by simp [pointersL, nowhereL, hb])
      exact valok_mono (rp_c6n o n b n' b' (bf hb) (bf o3) (bf o16) (bf o17) w) (by simp [pointersL, nowhereL, hb, palL, noneL, q33 o3, q34 o4, q46 o16, q47 o17])
    · exact valok_mono (rp_c6k o k n b n' b' (bf hb) (bf hk4) (bt hk2) w) (by simp [pointersL, nowhereL, hb, hk4, hk2])
end Go.Proofs.Ytopnbdblgfjnpaa
