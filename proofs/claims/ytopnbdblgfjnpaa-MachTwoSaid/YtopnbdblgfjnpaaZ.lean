/- The document's own answer of an operation of two is mach's, whatever the operation and the values. -/
import Derived.Test.YtopnbdblgfjnpaaH
import Derived.Test.YtopnbdblgfjnpaaK
import Derived.Test.YtopnbdblgfjnpaaY
namespace Go.Proofs.Ytopnbdblgfjnpaa
set_option linter.unusedSimpArgs false
set_option linter.unusedVariables false
open Go.RowKit

theorem pointersL_none (o k n b k' n' b' : Int) (h : o ≠ 33) (h' : o ≠ 34) (h2 : ¬ (46 ≤ o ∧ o ≤ 55)) : pointersL o k n b k' n' b' = noneL := by
  have e1 : (o == 33) = false := by simpa using h
  have e2 : (o == 34) = false := by simpa using h'
  have e3 : (o == 46) = false := by simp; omega
  have e4 : (o == 47) = false := by simp; omega
  have p : ∀ n b y, palL o n b y = noneL := by intro n b y; simp [palL, noneL, e1, e2, e3, e4]
  have t : twoL o n b n' b' = noneL := by unfold twoL; rw [e2, if_neg h2]; simp
  unfold pointersL
  simp only [p, t]
  repeat' split
  all_goals rfl
theorem wrap_id {m : Int} (h : 0 ≤ m ∧ m < 18446744073709551616) : IntKind.u64.wrap (wrap64 m) = m := by rw [IntKind.wrap_u64]; unfold wrap64; omega
theorem wrap_id' {m : Int} (h : 0 ≤ m ∧ m < 18446744073709551616) : IntKind.u64.wrap m = m := by rw [IntKind.wrap_u64]; omega
theorem longAns_eq {p : Int × Bool} (h : 0 ≤ p.1 ∧ p.1 < 18446744073709551616) : answerL 2 p.1 p.2 = longAns p := by
  unfold answerL longAns longL
  rw [wrap_id h]
  rfl
theorem intAns_eq {p : Int × Bool} (h : 0 ≤ p.1 ∧ p.1 < 4294967296) : answerL 1 (IntKind.u64.wrap p.1) p.2 = intAns p := by
  unfold answerL intAns
  rw [wrap_id' ⟨h.1, by omega⟩]
  rfl
theorem eval2L_of {o k n b k' n' b' a s r : Int} (hs : shapeL o = (a, s, r)) (hs0 : s ≠ 0) (hp : k ≠ 4 ∧ k' ≠ 4) (hk : k = a) (hk' : k' = s) : eval2L o k n b k' n' b' = answerL r (bits2L o a n n').1 (bits2L o a n n').2 := by
  subst hk hk'
  simp [eval2L, hs, hs0, hp.1, hp.2]
theorem eval2L_none {o k n b k' n' b' a s r : Int} (hs : shapeL o = (a, s, r)) (hp : k ≠ 4 ∧ k' ≠ 4) (hk : s = 0 ∨ k ≠ a ∨ k' ≠ s) : eval2L o k n b k' n' b' = noneL := by
  have : (s == 0 || k != a || k' != s) = true := by
    rcases hk with h | h | h <;> simp [h]
  simp only [eval2L, hs, this, if_true]
  simp [hp.1, hp.2]
theorem eval2L_noptr {o k n b k' n' b' a s r : Int} (hs : shapeL o = (a, s, r)) (h : o ≠ 33) (h' : o ≠ 34) (h2 : ¬ (46 ≤ o ∧ o ≤ 55)) (hk : s = 0 ∨ k ≠ a ∨ k' ≠ s) : eval2L o k n b k' n' b' = noneL := by
  have : (s == 0 || k != a || k' != s) = true := by
    rcases hk with h | h | h <;> simp [h]
  simp only [eval2L, hs, this, if_true, pointersL_none o k n b k' n' b' h h' h2]
  split <;> rfl
theorem shape_zero (o : Int) (h : o < 3 ∨ (25 < o ∧ o < 33) ∨ (55 < o ∧ o < 62) ∨ 71 < o) : ∃ a r, shapeL o = (a, 0, r) := by
  unfold shapeL
  by_cases c1 : 1 ≤ o ∧ o ≤ 25
  · rw [if_pos c1]; unfold wholeShapeL; rw [if_pos (by omega)]; exact ⟨_, _, rfl⟩
  · rw [if_neg c1]
    by_cases c2 : 31 ≤ o ∧ o ≤ 55
    · rw [if_pos c2]; unfold wholeShapeL; rw [if_pos (by omega)]; exact ⟨_, _, rfl⟩
    · rw [if_neg c2]
      by_cases c3 : o = 61
      · rw [if_pos c3]; exact ⟨_, _, rfl⟩
      · rw [if_neg c3, if_neg (by omega), if_neg (by omega)]; exact ⟨_, _, rfl⟩

theorem reval2_any (o k n b k' n' b' : Int) (hn : 0 ≤ n) (hN : n < 18446744073709551616) (hn' : 0 ≤ n') (hN' : n' < 18446744073709551616) (w : World) :
    Calls Try.prog 12 #[.int .i64 o, .agg #[.int .i64 k, .int .u64 n, .int .i64 b], .agg #[.int .i64 k', .int .u64 n', .int .i64 b']] w fun e w' => e = .returned (.tuple #[.agg #[.int .i64 (eval2L o k n b k' n' b').1.1, .int .u64 (eval2L o k n b k' n' b').1.2.1, .int .i64 (eval2L o k n b k' n' b').1.2.2], .bool (eval2L o k n b k' n' b').2]) ∧ Fresh w w' := by
  have bf : ∀ {x c : Int}, x ≠ c → (x == c) = false := fun h => by simpa using h
  have bt : ∀ {x c : Int}, x ≠ c → (x != c) = true := fun h => by simpa using h
  have bn : ∀ {x c : Int}, x = c → (x != c) = false := fun h => by simpa using h
  have hm : 0 ≤ n % 4294967296 ∧ n % 4294967296 < 4294967296 := by omega
  have hm' : 0 ≤ n' % 4294967296 ∧ n' % 4294967296 < 4294967296 := by omega
  by_cases z : o < 3 ∨ (25 < o ∧ o < 33) ∨ (55 < o ∧ o < 62) ∨ 71 < o
  · obtain ⟨a, r, hs⟩ := shape_zero o z
    exact valok_mono (re_z o k n b k' n' b' a r hs w) (eval2L_noptr hs (by omega) (by omega) (by omega) (Or.inl rfl))
  by_cases hd : 62 ≤ o
  · have hs : ∃ r, shapeL o = (3, 3, r) ∧ r = dblKind o := by
      by_cases h : o ≤ 65
      · exact ⟨3, shapeL_r62 o hd h, by simp [dblKind, h]⟩
      · exact ⟨1, shapeL_r66 o (by omega) (by omega), by simp [dblKind, h]⟩
    obtain ⟨r, hs, hr⟩ := hs
    by_cases hk : k = 3
    · by_cases hk' : k' = 3
      · subst hk hk'
        refine valok_mono (p := ((dblKind o, doublesL o n.toNat n'.toNat, 0), true)) (re_d o n b n' b' r hs hd (by omega) w) ?_
        rw [eval2L_of hs (by decide) (by decide) rfl rfl, hr]
        have e1 : (n.toNat : Int) = n := Int.toNat_of_nonneg hn
        have e2 : (n'.toNat : Int) = n' := Int.toNat_of_nonneg hn'
        rw [e1, e2]
        rfl
      · exact valok_mono (re_n2 o k n b k' n' b' 3 3 r hs (by decide) (by decide) (bn hk) (bt hk') w) (eval2L_noptr hs (by omega) (by omega) (by omega) (Or.inr (Or.inr hk')))
    · exact valok_mono (re_n1 o k n b k' n' b' 3 3 r hs (by decide) (by decide) (bt hk) w) (eval2L_noptr hs (by omega) (by omega) (by omega) (Or.inr (Or.inl hk)))
  by_cases hi : o ≤ 25
  · have hs : shapeL o = (1, 1, 1) := by
      by_cases h : o ≤ 12
      · exact shapeL_r3 o (by omega) h
      by_cases h : o ≤ 15
      · exact shapeL_r13 o (by omega) h
      · exact shapeL_r16 o (by omega) hi
    by_cases hk : k = 1
    · by_cases hk' : k' = 1
      · subst hk hk'
        have rng := whole32_range o (n % 4294967296) (n' % 4294967296) hm.1 hm.2 hm'.1 hm'.2
        have key : eval2L o 1 n b 1 n' b' = intAns (whole32 o (n % 4294967296) (n' % 4294967296)) := by
          rw [eval2L_of hs (by decide) (by decide) rfl rfl, ← intAns_eq rng]
          rfl
        by_cases h : o ≤ 12
        · exact valok_mono (re_w32 o n b n' b' hs (by omega) h w) key
        by_cases h : o ≤ 15
        · exact valok_mono (re_s32 o n b n' b' hs (by omega) h w) (by rw [key, whole32_shift o _ _ (by omega) h])
        by_cases h : o ≤ 21
        · refine valok_mono (p := ((1, flagL (comparedL o (decide (wrap32 (n % 4294967296) < wrap32 (n' % 4294967296))) (n % 4294967296 == n' % 4294967296)), 0), true)) (re_c32s o n b n' b' hs (by omega) h w) ?_
          have e : (n % 4294967296 == n' % 4294967296) = (wrap32 (n % 4294967296) == wrap32 (n' % 4294967296)) := by rw [Bool.eq_iff_iff]; simp only [beq_iff_eq]; unfold wrap32; omega
          rw [key, e, compare_signed o _ _ (by omega) h]
          unfold whole32
          rw [if_neg (by omega), if_pos (by omega)]
          rfl
        · refine valok_mono (p := ((1, flagL (comparedL o (decide (n % 4294967296 < n' % 4294967296)) (n % 4294967296 == n' % 4294967296)), 0), true)) (re_c32u o n b n' b' hs (by omega) hi w) ?_
          rw [key, compare_unsigned o _ _ (by omega) hi]
          unfold whole32
          rw [if_pos (by omega)]
          rfl
      · exact valok_mono (re_n2 o k n b k' n' b' 1 1 1 hs (by decide) (by decide) (bn hk) (bt hk') w) (eval2L_noptr hs (by omega) (by omega) (by omega) (Or.inr (Or.inr hk')))
    · exact valok_mono (re_n1 o k n b k' n' b' 1 1 1 hs (by decide) (by decide) (bt hk) w) (eval2L_noptr hs (by omega) (by omega) (by omega) (Or.inr (Or.inl hk)))
  by_cases hsh : 43 ≤ o ∧ o ≤ 45
  · have hs := shapeL_r43 o hsh.1 hsh.2
    by_cases hk : k = 2
    · by_cases hk' : k' = 1
      · subst hk hk'
        refine valok_mono (re_s64 o n b n' b' hs (by omega) (by omega) hsh.1 hsh.2 w) ?_
        have hS : isShiftL (o - 30) = true := by
          have h : o = 43 ∨ o = 44 ∨ o = 45 := by omega
          rcases h with rfl | rfl | rfl <;> rfl
        have e : bits2L o 2 n n' = shiftT64 (o - 30) n (n' % 4294967296) := by
          rw [← whole64_shift (o - 30) n (n' % 4294967296) (by omega) (by omega)]
          unfold bits2L
          rw [if_neg (by decide), if_neg (by decide), if_pos hS]
        rw [eval2L_of hs (by decide) (by decide) rfl rfl, e, longAns_eq (shift64_range (o - 30) n (n' % 4294967296) hn hN)]
      · exact valok_mono (re_n2 o k n b k' n' b' 2 1 2 hs (by decide) (by decide) (bn hk) (bt hk') w) (eval2L_noptr hs (by omega) (by omega) (by omega) (Or.inr (Or.inr hk')))
    · exact valok_mono (re_n1 o k n b k' n' b' 2 1 2 hs (by decide) (by decide) (bt hk) w) (eval2L_noptr hs (by omega) (by omega) (by omega) (Or.inr (Or.inl hk)))
  have hs : ∃ r, shapeL o = (2, 2, r) ∧ ((33 ≤ o ∧ o ≤ 42 ∧ r = 2) ∨ (46 ≤ o ∧ o ≤ 55 ∧ r = 1)) := by
    by_cases h : o ≤ 42
    · exact ⟨2, shapeL_r33 o (by omega) h, Or.inl ⟨by omega, h, rfl⟩⟩
    · exact ⟨1, shapeL_r46 o (by omega) (by omega), Or.inr ⟨by omega, by omega, rfl⟩⟩
  obtain ⟨r, hs, hr⟩ := hs
  by_cases k4 : k = 4
  · exact valok_mono (re_p1 o k n b k' n' b' r hs (by omega) (by omega) (by simpa using k4) (by omega) (by omega) (Or.inl k4) hn hN hn' hN' w) (by simp [eval2L, k4])
  by_cases k4' : k' = 4
  · exact valok_mono (re_p2 o k n b k' n' b' r hs (by omega) (by omega) (bf k4) (by simpa using k4') (by omega) (by omega) (Or.inr k4') hn hN hn' hN' w) (by simp [eval2L, k4'])
  by_cases hk : k = 2
  · by_cases hk' : k' = 2
    · subst hk hk'
      have hS : isShiftL (o - 30) = false := by rw [isShiftL_eq]; simp; omega
      have e : bits2L o 2 n n' = whole64 (o - 30) n n' := by
        unfold bits2L
        rw [if_neg (by decide), if_neg (by decide), hS]
        rfl
      have key := eval2L_of (n := n) (b := b) (n' := n') (b' := b') hs (by decide) (by decide) rfl rfl
      rcases hr with ⟨h1, h2, rfl⟩ | ⟨h1, h2, rfl⟩
      · refine valok_mono (re_w64 o n b n' b' hs (by omega) (by omega) h1 h2 hn hN hn' w) ?_
        rw [key, e, longAns_eq (whole64_range (o - 30) n n' hn hN hn' hN')]
      · by_cases h : o ≤ 51
        · refine valok_mono (p := ((1, flagL (comparedL (o - 30) (decide (wrap64 n < wrap64 n')) (n == n')), 0), true)) (re_c64s o n b n' b' hs h1 h w) ?_
          rw [key, e, beq64 hn hN hn' hN', compare_signed (o - 30) _ _ (by omega) (by omega)]
          unfold whole64
          rw [if_neg (by omega), if_pos (by omega)]
          rfl
        · refine valok_mono (p := ((1, flagL (comparedL (o - 30) (decide (n < n')) (n == n')), 0), true)) (re_c64u o n b n' b' hs (by omega) h2 w) ?_
          rw [key, e, compare_unsigned (o - 30) _ _ (by omega) (by omega)]
          unfold whole64
          rw [if_pos (by omega)]
          rfl
    · exact valok_mono (re_n4 o k n b k' n' b' r hs (bf k4) (bf k4') (bn hk) (bt hk') (by omega) (by omega) w) (eval2L_none hs ⟨k4, k4'⟩ (Or.inr (Or.inr hk')))
  · exact valok_mono (re_n3 o k n b k' n' b' r hs (bf k4) (bf k4') (bt hk) (by omega) (by omega) w) (eval2L_none hs ⟨k4, k4'⟩ (Or.inr (Or.inl hk)))
end Go.Proofs.Ytopnbdblgfjnpaa
