/- What an operation of two answers is right, and of its shape's kind. -/
import Derived.Test.YtopnbdblgfjnpaaK
import Derived.Test.YtopnbdblgfjnpaaO
namespace Go.Proofs.Ytopnbdblgfjnpaa
set_option linter.unusedSimpArgs false
set_option linter.unusedVariables false
open Go.RowKit

theorem right1 {m : Int} (h : m < 4294967296) : rightL 1 m 0 = true := by simp [rightL, h]
theorem right2 (m : Int) : rightL 2 m 0 = true := by simp [rightL]
theorem right3 (m : Int) : rightL 3 m 0 = true := by simp [rightL]
theorem right4 {b : Int} (m : Int) (h : b ≠ 0) : rightL 4 m b = true := by simp [rightL, h]
structure Good (p : (Int × Int × Int) × Bool) (r : Int) (ptr : Prop) : Prop where
  right : rightL p.1.1 p.1.2.1 p.1.2.2 = true
  none : p.2 = false → p.1.1 = 0
  kind : p.2 = true → p.1.1 = r ∨ (p.1.1 = 4 ∧ ptr)
theorem good_none (r : Int) (ptr : Prop) : Good noneL r ptr := ⟨by decide, fun _ => rfl, fun h => Bool.noConfusion h⟩
theorem good_answer {r m : Int} {ok : Bool} {ptr : Prop} (h : (r = 1 ∧ m < 4294967296) ∨ r = 2 ∨ r = 3) : Good (answerL r m ok) r ptr := by
  cases ok
  · exact ⟨(by decide : rightL 0 0 0 = true), fun _ => rfl, fun h => Bool.noConfusion h⟩
  · refine ⟨?_, fun h => Bool.noConfusion h, fun _ => Or.inl rfl⟩
    show rightL r m 0 = true
    rcases h with ⟨rfl, h⟩ | rfl | rfl
    · exact right1 h
    · exact right2 m
    · exact right3 m
theorem whole64_flag {p x y : Int} (h : 16 ≤ p) : (whole64 p x y).1 < 4294967296 := by
  have f1 := flagL_range (compareL (p - 22 + 18) x y)
  have f2 := flagL_range (compareL p (wrap64 x) (wrap64 y))
  unfold whole64
  split
  · dsimp only; omega
  · first | (rw [if_pos h]; dsimp only; omega) | (dsimp only; omega)
theorem pal_good {o n b y : Int} {ptr : Prop} (hb : b ≠ 0) (hp : ptr) : Good (palL o n b y) (shapeL o).2.2 ptr ∧ ((palL o n b y).2 = true → (shapeL o).2.1 ≠ 0) := by
  have hp4 : ∀ x, ptrL b x = (4, IntKind.u64.wrap x, b) := fun x => by simp [ptrL, hb]
  unfold palL
  by_cases h33 : o = 33
  · subst h33
    rw [if_pos (by decide), hp4]
    exact ⟨⟨right4 _ hb, fun h => Bool.noConfusion h, fun _ => Or.inr ⟨rfl, hp⟩⟩, fun _ => by decide⟩
  rw [if_neg (by simpa using h33)]
  by_cases h34 : o = 34
  · subst h34
    rw [if_pos (by decide), hp4]
    exact ⟨⟨right4 _ hb, fun h => Bool.noConfusion h, fun _ => Or.inr ⟨rfl, hp⟩⟩, fun _ => by decide⟩
  rw [if_neg (by simpa using h34)]
  by_cases h46 : o = 46
  · subst h46
    split
    · exact ⟨⟨by decide, fun h => Bool.noConfusion h, fun _ => Or.inl (by decide)⟩, fun _ => by decide⟩
    · rw [if_neg (by simp)]
      exact ⟨good_none _ _, fun h => Bool.noConfusion h⟩
  rw [if_neg (by simp [h46])]
  by_cases h47 : o = 47
  · subst h47
    split
    · exact ⟨⟨by decide, fun h => Bool.noConfusion h, fun _ => Or.inl (by decide)⟩, fun _ => by decide⟩
    · exact ⟨good_none _ _, fun h => Bool.noConfusion h⟩
  rw [if_neg (by simp [h47])]
  exact ⟨good_none _ _, fun h => Bool.noConfusion h⟩
theorem two_good {o n b n' b' : Int} {ptr : Prop} : Good (twoL o n b n' b') (shapeL o).2.2 ptr ∧ ((twoL o n b n' b').2 = true → (shapeL o).2.1 ≠ 0) := by
  unfold twoL
  split
  · exact ⟨good_none _ _, fun h => Bool.noConfusion h⟩
  · split
    · rename_i h
      obtain rfl : o = 34 := by simpa using h
      exact ⟨⟨right2 _, fun h => Bool.noConfusion h, fun _ => Or.inl (show (2 : Int) = (shapeL 34).2.2 by decide)⟩, fun _ => by decide⟩
    · split
      · rename_i h
        rw [shapeL_r46 o h.1 h.2]
        exact ⟨good_answer (Or.inl ⟨rfl, whole64_flag (by omega)⟩), fun _ => by decide⟩
      · exact ⟨good_none _ _, fun h => Bool.noConfusion h⟩
theorem pointers_good {o k n b k' n' b' : Int} (hk : k = 4 ∨ k' = 4) : Good (pointersL o k n b k' n' b') (shapeL o).2.2 (k = 4 ∨ k' = 4) ∧ ((pointersL o k n b k' n' b').2 = true → (shapeL o).2.1 ≠ 0) := by
  unfold pointersL
  by_cases hn : (nowhereL k b || nowhereL k' b') = true
  · rw [if_pos hn]; exact ⟨good_none _ _, fun h => Bool.noConfusion h⟩
  · rw [if_neg hn]
    simp only [nowhereL, Bool.or_eq_true, Bool.and_eq_true, beq_iff_eq, not_or, not_and] at hn
    split
    · exact two_good
    · rename_i h44
      simp only [Bool.and_eq_true, beq_iff_eq, not_and] at h44
      split
      · rename_i h2
        have h2' : k' = 2 := by simpa using h2
        have h4 : k = 4 := by omega
        exact pal_good (hn.1 h4) hk
      · split
        · rename_i h3
          have h3' : k = 2 := by simp at h3; exact h3.1
          have h4 : k' = 4 := by omega
          exact pal_good (hn.2 h4) hk
        · exact ⟨good_none _ _, fun h => Bool.noConfusion h⟩
theorem eval2_good (o k n b k' n' b' : Int) (hn : 0 ≤ n) (hN : n < 18446744073709551616) (hn' : 0 ≤ n') (hN' : n' < 18446744073709551616) :
    Good (eval2L o k n b k' n' b') (shapeL o).2.2 (k = 4 ∨ k' = 4) ∧ ((eval2L o k n b k' n' b').2 = true → (shapeL o).2.1 ≠ 0) := by
  unfold eval2L
  by_cases hp : (k == 4 || k' == 4) = true
  · rw [if_pos hp]
    exact pointers_good (by simpa using hp)
  · rw [if_neg hp]
    split
    · exact ⟨good_none _ _, fun h => Bool.noConfusion h⟩
    · rename_i h
      simp only [Bool.or_eq_true, beq_iff_eq, not_or] at h
      refine ⟨?_, fun _ => h.1.1⟩
      have hm : 0 ≤ n % 4294967296 ∧ n % 4294967296 < 4294967296 := by omega
      have hm' : 0 ≤ n' % 4294967296 ∧ n' % 4294967296 < 4294967296 := by omega
      rcases shape_two o (by simpa using h.1.1) with ⟨e, h1, h2⟩ | ⟨e, h1, h2⟩ | ⟨e, h1, h2⟩
      · by_cases c : o ≤ 65
        · rw [shapeL_r62 o h1 c]; exact good_answer (Or.inr (Or.inr rfl))
        · rw [shapeL_r66 o (by omega) h2]
          refine good_answer (Or.inl ⟨rfl, ?_⟩)
          have f := flagL_range (fcompareL (o - 66 + 16) n.toNat n'.toNat)
          have hd : doublesL o n n' = flagL (fcompareL (o - 66 + 16) n.toNat n'.toNat) := by
            unfold doublesL
            rw [if_neg (by simp; omega), if_neg (by simp; omega), if_neg (by simp; omega), if_neg (by simp; omega)]
          show doublesL o n n' < 4294967296
          rw [hd]; omega
      · rw [e]
        have hr : (shapeL o).2.2 = 1 := by
          by_cases c : o ≤ 2
          · have : o = 1 ∨ o = 2 := by omega
            rcases this with rfl | rfl <;> decide
          by_cases c : o ≤ 12
          · rw [shapeL_r3 o (by omega) c]
          by_cases c : o ≤ 15
          · rw [shapeL_r13 o (by omega) c]
          · rw [shapeL_r16 o (by omega) h2]
        rw [hr]
        refine good_answer (Or.inl ⟨rfl, ?_⟩)
        have rg := whole32_range o (n % 4294967296) (n' % 4294967296) hm.1 hm.2 hm'.1 hm'.2
        show IntKind.u64.wrap (whole32 o (n % 4294967296) (n' % 4294967296)).1 < 4294967296
        rw [IntKind.wrap_u64]; omega
      · by_cases c : o ≤ 45
        · have hr : (shapeL o).2.2 = 2 := by
            by_cases c1 : o ≤ 32
            · have : o = 31 ∨ o = 32 := by omega
              rcases this with rfl | rfl <;> decide
            by_cases c2 : o ≤ 42
            · rw [shapeL_r33 o (by omega) c2]
            · rw [shapeL_r43 o (by omega) c]
          rw [hr]; exact good_answer (Or.inr (Or.inl rfl))
        · have hs := shapeL_r46 o (by omega) h2
          rw [hs]
          refine good_answer (Or.inl ⟨rfl, ?_⟩)
          have hS : isShiftL (o - 30) = false := by rw [isShiftL_eq]; simp; omega
          have eb : bits2L o 2 n n' = whole64 (o - 30) n n' := by
            unfold bits2L
            rw [if_neg (by decide), if_neg (by decide), hS]
            rfl
          show (bits2L o 2 n n').1 < 4294967296
          rw [eb]; exact whole64_flag (by omega)

theorem c31_range (t : Nat) : (c31 t).1 % 4294967296 < 4294967296 := by omega
theorem c32_range (t : Nat) : 0 ≤ (c32 t).1 ∧ (c32 t).1 < 4294967296 := by
  unfold c32
  cases h : winL t 0 4751297606875873280
  · simp
  · have := win32 h
    simp only [if_true]
    omega
theorem turn32_range {o x : Int} (h0 : 0 ≤ x) (h1 : x < 4294967296) : 0 ≤ turn32 o x ∧ turn32 o x < 4294967296 := by
  unfold turn32
  have hm : IntKind.u32.max = 4294967295 := by decide
  have c : ((4294967295 : Int).toNat ^^^ x.toNat) < 2 ^ 32 := Nat.xor_lt_two_pow (by decide) (by omega)
  rw [hm, u32_xor 4294967295 x (by decide) (by decide) h0 h1]
  split <;> omega
theorem extend_range {o x : Int} (h : o ≤ 82 ∨ 85 ≤ o) : 0 ≤ extendL o x ∧ extendL o x < 4294967296 := by
  have h84 : (o == 84) = false := by simp; omega
  by_cases h83 : o = 83
  · omega
  · have h83' : (o == 83) = false := by simpa using h83
    unfold extendL
    rw [h84, h83']
    simp only [Bool.false_eq_true, if_false]
    repeat' split
    all_goals omega
theorem extend83 (x : Int) : 0 ≤ extendL 83 x ∧ extendL 83 x < 4294967296 := by
  have e : extendL 83 x = IntKind.u64.wrap (IntKind.u16.wrap x) := rfl
  rw [e, IntKind.wrap_u16, IntKind.wrap_u64]
  omega
theorem eval1_good (o k n : Int) (t : Nat) : Good (eval1L o k n t) (shapeL o).2.2 False ∧ ((eval1L o k n t).2 = true → (shapeL o).2.1 = 0 ∧ (shapeL o).1 ≠ 0) := by
  unfold eval1L
  by_cases hc : (o == 95 || o == 96) = true
  · rw [if_pos hc]
    have f := flagL_range ((truthL k n).1 == (o == 95))
    have ho : o = 95 ∨ o = 96 := by simpa using hc
    have hs : shapeL o = (1, 0, 1) := by rcases ho with rfl | rfl <;> decide
    rw [hs]
    exact ⟨good_answer (Or.inl ⟨rfl, by omega⟩), fun _ => ⟨rfl, by decide⟩⟩
  · rw [if_neg hc]
    split
    · exact ⟨good_none _ _, fun h => Bool.noConfusion h⟩
    · rename_i h
      simp only [Bool.or_eq_true, beq_iff_eq, bne_iff_ne, ne_eq, not_or, Decidable.not_not] at h
      obtain ⟨⟨h1, h2⟩, h3⟩ := h
      refine ⟨?_, fun _ => ⟨h2, h1⟩⟩
      have rg := shape_one o (by simpa using h1)
      have hx : 0 ≤ n % 4294967296 ∧ n % 4294967296 < 4294967296 := by omega
      by_cases a2 : o ≤ 2
      · have tr := turn32_range (o := o) hx.1 hx.2
        have e : bits1L o n t = (IntKind.u64.wrap (turn32 o (n % 4294967296)), true) := by
          unfold bits1L; rw [if_pos (by simp; omega)]
        have hr : (shapeL o).2.2 = 1 := by
          have : o = 1 ∨ o = 2 := by omega
          rcases this with rfl | rfl <;> decide
        rw [hr, e]
        refine good_answer (Or.inl ⟨rfl, ?_⟩)
        show IntKind.u64.wrap (turn32 o (n % 4294967296)) < 4294967296
        rw [IntKind.wrap_u64]; omega
      by_cases a12 : o ≤ 12
      · rw [shapeL_r3 o (by omega) a12] at h2; exact absurd h2 (by decide)
      by_cases a15 : o ≤ 15
      · rw [shapeL_r13 o (by omega) a15] at h2; exact absurd h2 (by decide)
      by_cases a25 : o ≤ 25
      · rw [shapeL_r16 o (by omega) a25] at h2; exact absurd h2 (by decide)
      by_cases a30 : o ≤ 30
      · rw [shapeL_r26 o (by omega) a30] at h1; exact absurd rfl h1
      by_cases a32 : o ≤ 32
      · have hr : (shapeL o).2.2 = 2 := by
          have : o = 31 ∨ o = 32 := by omega
          rcases this with rfl | rfl <;> decide
        rw [hr]; exact good_answer (Or.inr (Or.inl rfl))
      by_cases a42 : o ≤ 42
      · rw [shapeL_r33 o (by omega) a42] at h2; exact absurd h2 (by decide)
      by_cases a45 : o ≤ 45
      · rw [shapeL_r43 o (by omega) a45] at h2; exact absurd h2 (by decide)
      by_cases a55 : o ≤ 55
      · rw [shapeL_r46 o (by omega) a55] at h2; exact absurd h2 (by decide)
      by_cases a60 : o ≤ 60
      · rw [shapeL_r56 o (by omega) a60] at h1; exact absurd rfl h1
      by_cases a61 : o = 61
      · subst a61
        rw [show (shapeL 61).2.2 = 3 by decide]
        exact good_answer (Or.inr (Or.inr rfl))
      by_cases a65 : o ≤ 65
      · rw [shapeL_r62 o (by omega) a65] at h2; exact absurd h2 (by decide)
      by_cases a71 : o ≤ 71
      · rw [shapeL_r66 o (by omega) a71] at h2; exact absurd h2 (by decide)
      by_cases a79 : o ≤ 79
      · rw [shapeL_r72 o (by omega) a79] at h1; exact absurd rfl h1
      by_cases a83 : o ≤ 83
      · rw [shapeL_r80 o (by omega) a83]
        refine good_answer (Or.inl ⟨rfl, ?_⟩)
        have e : bits1L o n t = (extendL o n, true) := by
          unfold bits1L
          rw [if_neg (by simp; omega), if_neg (by simp; omega), if_neg (by simp; omega), if_neg (by simp; omega), if_neg (by simp; omega)]
        rw [e]
        by_cases h83 : o = 83
        · subst h83; exact (extend83 n).2
        · exact (extend_range (Or.inl (by omega))).2
      have hcase : o = 84 ∨ o = 85 ∨ o = 86 ∨ o = 87 ∨ o = 88 ∨ o = 89 ∨ o = 90 ∨ o = 91 ∨ o = 92 ∨ o = 93 ∨ o = 94 := by
        have : o ≠ 95 ∧ o ≠ 96 := by simpa using hc
        omega
      rcases hcase with rfl | rfl | rfl | rfl | rfl | rfl | rfl | rfl | rfl | rfl | rfl
      · exact good_answer (Or.inr (Or.inl (by decide)))
      · exact good_answer (Or.inr (Or.inl (by decide)))
      · exact good_answer (Or.inl ⟨by decide, (extend_range (o := 86) (x := n) (Or.inr (by decide))).2⟩)
      · exact good_answer (Or.inr (Or.inr (by decide)))
      · exact good_answer (Or.inr (Or.inr (by decide)))
      · exact good_answer (Or.inr (Or.inr (by decide)))
      · exact good_answer (Or.inr (Or.inr (by decide)))
      · exact good_answer (Or.inl ⟨by decide, c31_range t⟩)
      · refine good_answer (Or.inl ⟨by decide, ?_⟩)
        have := c32_range t
        show IntKind.u64.wrap (c32 t).1 < 4294967296
        rw [IntKind.wrap_u64]; omega
      · exact good_answer (Or.inr (Or.inl (by decide)))
      · exact good_answer (Or.inr (Or.inl (by decide)))
end Go.Proofs.Ytopnbdblgfjnpaa
