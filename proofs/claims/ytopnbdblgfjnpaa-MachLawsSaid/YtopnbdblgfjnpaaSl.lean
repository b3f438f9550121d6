/- Laws of whole numbers: the pure part. -/
import Derived.Test.YtopnbdblgfjnpaaK
import Derived.Test.YtopnbdblgfjnpaaJ
import Derived.Lib.Hide
namespace Go.Proofs.Ytopnbdblgfjnpaa
set_option linter.unusedSimpArgs false
set_option linter.unusedVariables false
open Go.RowKit

theorem wrap_small {n : Int} (h0 : 0 ≤ n) (h1 : n < 4294967296) : IntKind.u64.wrap n = n := by
  simp [IntKind.wrap, IntKind.bits, IntKind.signed]; omega
theorem ans32 (o x y : Int) (hx : 0 ≤ x) (hX : x < 4294967296) (hy : 0 ≤ y) (hY : y < 4294967296) (hs : shapeL o = (1, 1, 1)) :
    eval2L o 1 x 0 1 y 0 = answerL 1 (whole32 o x y).1 (whole32 o x y).2 := by
  have e1 : x % 4294967296 = x := Int.emod_eq_of_lt hx hX
  have e2 : y % 4294967296 = y := Int.emod_eq_of_lt hy hY
  obtain ⟨r1, r2⟩ := whole32_range o x y hx hX hy hY
  simp [eval2L, bits2L, hs, e1, e2, wrap_small r1 r2]
theorem ans64 (o x y r : Int) (hs : shapeL o = (2, 2, r)) (hsh : isShiftL (o - 30) = false) :
    eval2L o 2 x 0 2 y 0 = answerL r (whole64 (o - 30) x y).1 (whole64 (o - 30) x y).2 := by
  simp [eval2L, bits2L, hs, hsh]
theorem bits_comm (op : BinOp) (h : op = .and ∨ op = .or ∨ op = .xor) (k : IntKind) (x y : Int) : bits op k x y = bits op k y x := by
  rcases h with rfl | rfl | rfl
  · simp only [bits, BitVec.and_comm]
  · simp only [bits, BitVec.or_comm]
  · simp only [bits, BitVec.xor_comm]
theorem arith32_comm (o x y : Int) (h : o ≠ 4) : arith32 o x y = arith32 o y x := by
  unfold arith32
  by_cases h3 : o = 3
  · subst h3; simp [Int.add_comm]
  by_cases h5 : o = 5
  · subst h5; simp [Int.mul_comm]
  have a : (o == 3) = false := by simpa using h3
  have b : (o == 4) = false := by simpa using h
  have c : (o == 5) = false := by simpa using h5
  simp only [a, b, c, Bool.false_eq_true, if_false]
  rw [bits_comm .and (by simp), bits_comm .or (by simp), bits_comm .xor (by simp)]
theorem arith64_comm (o x y : Int) (h : o ≠ 4) : arith64 o x y = arith64 o y x := by
  unfold arith64
  by_cases h3 : o = 3
  · subst h3; simp [Int.add_comm]
  by_cases h5 : o = 5
  · subst h5; simp [Int.mul_comm]
  have a : (o == 3) = false := by simpa using h3
  have b : (o == 4) = false := by simpa using h
  have c : (o == 5) = false := by simpa using h5
  simp only [a, b, c, Bool.false_eq_true, if_false]
  rw [bits_comm .and (by simp), bits_comm .or (by simp), bits_comm .xor (by simp)]
theorem beq_c (x y : Int) : (x == y) = (y == x) := by
  rw [Bool.eq_iff_iff]; simp only [beq_iff_eq]; exact eq_comm
def opsL : List Int := [3, 5, 10, 11, 12, 16, 17]
structure Comm (o k a b r v : Int) : Prop where
  l : eval2L o k a 0 k b 0 = ((r, v, 0), true)
  r : eval2L o k b 0 k a 0 = ((r, v, 0), true)
theorem whole32_comm (o x y : Int) (h : o ∈ opsL) : whole32 o x y = whole32 o y x ∧ (whole32 o x y).2 = true := by
  simp only [opsL, List.mem_cons, List.not_mem_nil, or_false] at h
  rcases h with rfl | rfl | rfl | rfl | rfl | rfl | rfl
  · simp [whole32, isShiftL, arith32_comm 3 x y (by decide)]
  · simp [whole32, isShiftL, arith32_comm 5 x y (by decide)]
  · simp [whole32, isShiftL, arith32_comm 10 x y (by decide)]
  · simp [whole32, isShiftL, arith32_comm 11 x y (by decide)]
  · simp [whole32, isShiftL, arith32_comm 12 x y (by decide)]
  · exact ⟨by simp [whole32, isShiftL, compareL, beq_c (wrap32 x)], by simp [whole32]⟩
  · exact ⟨by simp [whole32, isShiftL, compareL, bne, beq_c (wrap32 x)], by simp [whole32]⟩
theorem whole64_comm (o x y : Int) (h : o ∈ opsL) : whole64 o x y = whole64 o y x ∧ (whole64 o x y).2 = true := by
  simp only [opsL, List.mem_cons, List.not_mem_nil, or_false] at h
  rcases h with rfl | rfl | rfl | rfl | rfl | rfl | rfl
  · simp [whole64, isShiftL, arith64_comm 3 x y (by decide)]
  · simp [whole64, isShiftL, arith64_comm 5 x y (by decide)]
  · simp [whole64, isShiftL, arith64_comm 10 x y (by decide)]
  · simp [whole64, isShiftL, arith64_comm 11 x y (by decide)]
  · simp [whole64, isShiftL, arith64_comm 12 x y (by decide)]
  · exact ⟨by simp [whole64, isShiftL, compareL, beq_c (wrap64 x)], by simp [whole64]⟩
  · exact ⟨by simp [whole64, isShiftL, compareL, bne, beq_c (wrap64 x)], by simp [whole64]⟩
theorem ops_shape : ∀ o ∈ opsL, shapeL o = (1, 1, 1) ∧ (∃ r, shapeL (o + 30) = (2, 2, r)) ∧ isShiftL (o + 30 - 30) = false := by
  intro o h
  simp only [opsL, List.mem_cons, List.not_mem_nil, or_false] at h
  rcases h with rfl | rfl | rfl | rfl | rfl | rfl | rfl
  all_goals exact ⟨by decide, ⟨_, rfl⟩, by decide⟩
theorem comm32 (o a b : Int) (h : o ∈ opsL) (ha : 0 ≤ a) (hA : a < 4294967296) (hb : 0 ≤ b) (hB : b < 4294967296) : ∃ r v, Comm o 1 a b r v := by
  obtain ⟨e, t⟩ := whole32_comm o a b h
  obtain ⟨s, -, -⟩ := ops_shape o h
  refine ⟨1, (whole32 o a b).1, ⟨?_, ?_⟩⟩
  · rw [ans32 o a b ha hA hb hB s, t]; rfl
  · rw [ans32 o b a hb hB ha hA s, ← e, t]; rfl
theorem comm64 (o a b : Int) (h : o ∈ opsL) : ∃ r v, Comm (o + 30) 2 a b r v := by
  obtain ⟨e, t⟩ := whole64_comm o a b h
  obtain ⟨-, ⟨r, s⟩, q⟩ := ops_shape o h
  have hz : o + 30 - 30 = o := by omega
  refine ⟨r, (whole64 o a b).1, ⟨?_, ?_⟩⟩
  · rw [ans64 (o + 30) a b r s q, hz, t]; rfl
  · rw [ans64 (o + 30) b a r s q, hz, ← e, t]; rfl
/-- A sum, and the difference that undoes it. -/
theorem back32 (a b : Int) (ha : 0 ≤ a) (hA : a < 4294967296) (hb : 0 ≤ b) (hB : b < 4294967296) : ∃ s, 0 ≤ s ∧ eval2L 3 1 a 0 1 b 0 = ((1, s, 0), true) ∧ eval2L 4 1 s 0 1 b 0 = ((1, a, 0), true) := by
  refine ⟨(a + b) % 4294967296, by omega, ?_, ?_⟩
  · rw [ans32 3 a b ha hA hb hB (by decide)]; simp [whole32, isShiftL, arith32, answerL]
  · rw [ans32 4 _ b (by omega) (by omega) hb hB (by decide)]; simp [whole32, isShiftL, arith32, answerL]; omega
theorem u64w (n : Int) : IntKind.u64.wrap n = n % 18446744073709551616 := by simp [IntKind.wrap, IntKind.bits, IntKind.signed]
theorem back64 (a b : Int) (ha : 0 ≤ a) (hA : a < 18446744073709551616) (hb : 0 ≤ b) (hB : b < 18446744073709551616) : ∃ s, 0 ≤ s ∧ eval2L 33 2 a 0 2 b 0 = ((2, s, 0), true) ∧ eval2L 34 2 s 0 2 b 0 = ((2, a, 0), true) := by
  refine ⟨(a + b) % 18446744073709551616, by omega, ?_, ?_⟩
  · rw [ans64 33 a b 2 (by decide) (by decide)]; simp [whole64, isShiftL, arith64, answerL, u64w]
  · rw [ans64 34 _ b 2 (by decide) (by decide)]; simp [whole64, isShiftL, arith64, answerL, u64w]; omega
/-- A quotient and what is left make the number again. -/
structure Div (o m p k a b q r x : Int) : Prop where
  hq : 0 ≤ q
  hr : 0 ≤ r
  hx : 0 ≤ x
  dq : eval2L o k a 0 k b 0 = ((k, q, 0), true)
  dr : eval2L (o + 2) k a 0 k b 0 = ((k, r, 0), true)
  dp : eval2L m k q 0 k b 0 = ((k, x, 0), true)
  ds : eval2L p k x 0 k r 0 = ((k, a, 0), true)
structure NoDiv (o k a b : Int) : Prop where
  q : eval2L o k a 0 k b 0 = ((0, 0, 0), false)
  r : eval2L (o + 2) k a 0 k b 0 = ((0, 0, 0), false)
theorem mul_mod_l (x y M : Int) : x % M * y % M = x * y % M := by rw [Int.mul_emod, Int.emod_emod, ← Int.mul_emod]
theorem div32 (a b : Int) (ha : 0 ≤ a) (hA : a < 4294967296) (hb : 0 ≤ b) (hB : b < 4294967296) (o : Int) (ho : o = 6 ∨ o = 7) : NoDiv o 1 a b ∨ ∃ q r x, Div o 5 3 1 a b q r x := by
  have mk : ∀ (Q R : Int), whole32 o a b = (Q, true) → whole32 (o + 2) a b = (R, true) → (Q * b + R) % 4294967296 = a → shapeL o = (1, 1, 1) → shapeL (o + 2) = (1, 1, 1) → ∃ q r x, Div o 5 3 1 a b q r x := by
    intro Q R h1 h2 h3 s1 s2
    obtain ⟨q1, q2⟩ := whole32_range o a b ha hA hb hB
    obtain ⟨r1, r2⟩ := whole32_range (o + 2) a b ha hA hb hB
    rw [h1] at q1 q2
    rw [h2] at r1 r2
    refine ⟨Q, R, Q * b % 4294967296, ⟨q1, r1, by omega, ?_, ?_, ?_, ?_⟩⟩
    · rw [ans32 o a b ha hA hb hB s1, h1]; rfl
    · rw [ans32 (o + 2) a b ha hA hb hB s2, h2]; rfl
    · rw [ans32 5 Q b q1 q2 hb hB (by decide)]; simp [whole32, isShiftL, arith32, answerL]
    · rw [ans32 3 _ R (by omega) (by omega) r1 r2 (by decide)]; simp [whole32, isShiftL, arith32, answerL]; exact h3
  have no : whole32 o a b = (0, false) → whole32 (o + 2) a b = (0, false) → shapeL o = (1, 1, 1) → shapeL (o + 2) = (1, 1, 1) → NoDiv o 1 a b := by
    intro h1 h2 s1 s2
    refine ⟨?_, ?_⟩
    · rw [ans32 o a b ha hA hb hB s1, h1]; rfl
    · rw [ans32 (o + 2) a b ha hA hb hB s2, h2]; rfl
  by_cases hz : b = 0
  · subst hz
    rcases ho with rfl | rfl
    · exact Or.inl (no (by simp [whole32, isShiftL, divS32, wrap32]) (by simp [whole32, isShiftL, divS32, wrap32]) (by decide) (by decide))
    · exact Or.inl (no (by simp [whole32, isShiftL, divU32]) (by simp [whole32, isShiftL, divU32]) (by decide) (by decide))
  · rcases ho with rfl | rfl
    · have hw : wrap32 b ≠ 0 := by unfold wrap32; omega
      by_cases hl : (wrap32 b == -1 && low32 a) = true
      · exact Or.inl (no (by simp [whole32, isShiftL, hl]) (by simp [whole32, isShiftL, hl]) (by decide) (by decide))
      · have hl' : (wrap32 b == -1 && low32 a) = false := by simpa using hl
        refine Or.inr (mk (wrap32 ((wrap32 a).tdiv (wrap32 b)) % 4294967296) ((wrap32 a).tmod (wrap32 b) % 4294967296) ?_ ?_ ?_ (by decide) (by decide))
        · simp only [whole32, isShiftL, hl', divS32]; simp [hw]
        · simp only [whole32, isShiftL, hl', divS32]; simp [hw]
        · have e := Int.mul_tdiv_add_tmod (wrap32 a) (wrap32 b)
          have ea : wrap32 a % 4294967296 = a := by unfold wrap32; omega
          have eb : b % 4294967296 = wrap32 b % 4294967296 := by unfold wrap32; omega
          have ew : ∀ n, wrap32 n % 4294967296 = n % 4294967296 := fun n => by unfold wrap32; omega
          rw [ew, Int.add_emod, mul_mod_l, Int.emod_emod, Int.mul_emod, eb, ← Int.mul_emod, ← Int.add_emod, Int.mul_comm, e, ea]
    · refine Or.inr (mk (a.tdiv b % 4294967296) (a % b) ?_ ?_ ?_ (by decide) (by decide))
      · simp [whole32, isShiftL, divU32, hz]
      · simp [whole32, isShiftL, divU32, hz]
      · have e := Int.mul_ediv_add_emod a b
        rw [Int.tdiv_eq_ediv_of_nonneg ha, Int.add_emod, mul_mod_l, ← Int.add_emod, Int.mul_comm, e]
        omega
theorem div64 (a b : Int) (ha : 0 ≤ a) (hA : a < 18446744073709551616) (hb : 0 ≤ b) (hB : b < 18446744073709551616) (o : Int) (ho : o = 36 ∨ o = 37) : NoDiv o 2 a b ∨ ∃ q r x, Div o 35 33 2 a b q r x := by
  have mk : ∀ (Q R : Int), whole64 (o - 30) a b = (Q, true) → whole64 (o + 2 - 30) a b = (R, true) → (Q * b + R) % 18446744073709551616 = a → shapeL o = (2, 2, 2) ∧ isShiftL (o - 30) = false → shapeL (o + 2) = (2, 2, 2) ∧ isShiftL (o + 2 - 30) = false → ∃ q r x, Div o 35 33 2 a b q r x := by
    intro Q R h1 h2 h3 s1 s2
    obtain ⟨q1, q2⟩ := whole64_range (o - 30) a b ha hA hb hB
    obtain ⟨r1, r2⟩ := whole64_range (o + 2 - 30) a b ha hA hb hB
    rw [h1] at q1 q2
    rw [h2] at r1 r2
    refine ⟨Q, R, Q * b % 18446744073709551616, ⟨q1, r1, by omega, ?_, ?_, ?_, ?_⟩⟩
    · rw [ans64 o a b 2 s1.1 s1.2, h1]; rfl
    · rw [ans64 (o + 2) a b 2 s2.1 s2.2, h2]; rfl
    · rw [ans64 35 Q b 2 (by decide) (by decide)]; simp [whole64, isShiftL, arith64, answerL, u64w]
    · rw [ans64 33 _ R 2 (by decide) (by decide)]; simp [whole64, isShiftL, arith64, answerL, u64w]; exact h3
  have no : whole64 (o - 30) a b = (0, false) → whole64 (o + 2 - 30) a b = (0, false) → shapeL o = (2, 2, 2) ∧ isShiftL (o - 30) = false → shapeL (o + 2) = (2, 2, 2) ∧ isShiftL (o + 2 - 30) = false → NoDiv o 2 a b := by
    intro h1 h2 s1 s2
    refine ⟨?_, ?_⟩
    · rw [ans64 o a b 2 s1.1 s1.2, h1]; rfl
    · rw [ans64 (o + 2) a b 2 s2.1 s2.2, h2]; rfl
  by_cases hz : b = 0
  · subst hz
    rcases ho with rfl | rfl
    · exact Or.inl (no (by simp [whole64, isShiftL, divS64, wrap64, u64w]) (by simp [whole64, isShiftL, divS64, wrap64, u64w]) (by decide) (by decide))
    · exact Or.inl (no (by simp [whole64, isShiftL, divU64]) (by simp [whole64, isShiftL, divU64]) (by decide) (by decide))
  · rcases ho with rfl | rfl
    · have hw : wrap64 b ≠ 0 := by unfold wrap64; omega
      by_cases hl : (wrap64 b == -1 && low64 a) = true
      · exact Or.inl (no (by simp [whole64, isShiftL, hl]) (by simp [whole64, isShiftL, hl]) (by decide) (by decide))
      · have hl' : (wrap64 b == -1 && low64 a) = false := by simpa using hl
        refine Or.inr (mk (wrap64 ((wrap64 a).tdiv (wrap64 b)) % 18446744073709551616) ((wrap64 a).tmod (wrap64 b) % 18446744073709551616) ?_ ?_ ?_ (by decide) (by decide))
        · simp only [whole64, isShiftL, hl', divS64]; simp [hw, u64w]
        · simp only [whole64, isShiftL, hl', divS64]; simp [hw, u64w]
        · have e := Int.mul_tdiv_add_tmod (wrap64 a) (wrap64 b)
          have ea : wrap64 a % 18446744073709551616 = a := by unfold wrap64; omega
          have eb : b % 18446744073709551616 = wrap64 b % 18446744073709551616 := by unfold wrap64; omega
          have ew : ∀ n, wrap64 n % 18446744073709551616 = n % 18446744073709551616 := fun n => by unfold wrap64; omega
          rw [ew, Int.add_emod, mul_mod_l, Int.emod_emod, Int.mul_emod, eb, ← Int.mul_emod, ← Int.add_emod, Int.mul_comm, e, ea]
    · refine Or.inr (mk (a.tdiv b % 18446744073709551616) (a % b) ?_ ?_ ?_ (by decide) (by decide))
      · simp [whole64, isShiftL, divU64, hz, u64w]
      · simp [whole64, isShiftL, divU64, hz, u64w]
      · have e := Int.mul_ediv_add_emod a b
        rw [Int.tdiv_eq_ediv_of_nonneg ha, Int.add_emod, mul_mod_l, ← Int.add_emod, Int.mul_comm, e]
        omega
end Go.Proofs.Ytopnbdblgfjnpaa
