/- Comparisons: of two numbers of a kind just one of below, equal and above holds. The pure part. -/
import Derived.Test.YtopnbdblgfjnpaaSa
namespace Go.Proofs.Ytopnbdblgfjnpaa
set_option linter.unusedSimpArgs false
set_option linter.unusedVariables false
open Go.RowKit

/-- What the six comparisons answer. -/
structure Row (o q k a b L M G E S O : Int) : Prop where
  l : eval2L o k a 0 k b 0 = ((1, L, 0), true)
  m : eval2L (o + 1) k a 0 k b 0 = ((1, M, 0), true)
  g : eval2L (o + 2) k a 0 k b 0 = ((1, G, 0), true)
  e : eval2L (o + 3) k a 0 k b 0 = ((1, E, 0), true)
  s : eval2L q k a 0 k b 0 = ((1, S, 0), true)
  t : eval2L (q + 1) k a 0 k b 0 = ((1, O, 0), true)
/-- Below, equal, above. -/
def One (L M G E S O : Int) : Prop := (L = 1 ∧ M = 1 ∧ G = 0 ∧ E = 0 ∧ S = 0 ∧ O = 1) ∨ (L = 0 ∧ M = 1 ∧ G = 0 ∧ E = 1 ∧ S = 1 ∧ O = 0) ∨ (L = 0 ∧ M = 0 ∧ G = 1 ∧ E = 1 ∧ S = 0 ∧ O = 1)
def None4 (L M G E S O : Int) : Prop := L = 0 ∧ M = 0 ∧ G = 0 ∧ E = 0 ∧ S = 0 ∧ O = 1

theorem cmp_low (o x y : Int) (hx : 0 ≤ x) (hX : x < 4294967296) (hy : 0 ≤ y) (hY : y < 4294967296) (hs : shapeL o = (1, 1, 1)) {c : Bool} (h : whole32 o x y = (flagL c, true)) :
    eval2L o 1 x 0 1 y 0 = ((1, flagL c, 0), true) :=
  bits_low o x y hx hX hy hY h (by cases c <;> decide) (by cases c <;> decide) hs 0 0
theorem cmp_long (o x y : Int) (hs : shapeL o = (2, 2, 1)) (hsh : isShiftL (o - 30) = false) {c : Bool} (h : whole64 (o - 30) x y = (flagL c, true)) :
    eval2L o 2 x 0 2 y 0 = ((1, flagL c, 0), true) := by
  simp [eval2L, bits2L, hs, answerL, hsh, h]
theorem cmp_dbl (o x y : Int) (hs : shapeL o = (3, 3, 1)) (ho : 66 ≤ o) {c : Bool} (h : fcompareL (o - 66 + 16) x.toNat y.toNat = c) :
    eval2L o 3 x 0 3 y 0 = ((1, flagL c, 0), true) := by
  have h1 : (o == 62) = false := by simp; omega
  have h2 : (o == 63) = false := by simp; omega
  have h3 : (o == 64) = false := by simp; omega
  have h4 : (o == 65) = false := by simp; omega
  simp [eval2L, bits2L, hs, answerL, doublesL, h, h1, h2, h3, h4]

theorem row0 (a b : Int) (ha : 0 ≤ a) (hA : a < 4294967296) (hb : 0 ≤ b) (hB : b < 4294967296) : ∃ L M G E S O, Row 18 16 1 a b L M G E S O ∧ One L M G E S O := by
  have key : ∀ o, shapeL o = (1, 1, 1) → 16 ≤ o → o < 22 → eval2L o 1 a 0 1 b 0 = ((1, flagL (compareL o (wrap32 a) (wrap32 b)), 0), true) := fun o h1 h2 h3 =>
    cmp_low o a b ha hA hb hB h1 (by have : ¬ 22 ≤ o := by omega
                                     simp [whole32, this, h2])
  refine ⟨_, _, _, _, _, _, ⟨key 18 (by decide) (by decide) (by decide), key 19 (by decide) (by decide) (by decide), key 20 (by decide) (by decide) (by decide), key 21 (by decide) (by decide) (by decide), key 16 (by decide) (by decide) (by decide), key 17 (by decide) (by decide) (by decide)⟩, ?_⟩
  generalize wrap32 a = x
  generalize wrap32 b = y
  unfold One
  rcases Int.lt_trichotomy x y with h | h | h
  · have h1 : x ≠ y := by omega
    have h2 : x ≤ y := by omega
    have h3 : ¬ y < x := by omega
    have h4 : ¬ y ≤ x := by omega
    exact Or.inl (by simp [compareL, flagL, *])
  · subst h
    exact Or.inr (Or.inl (by simp [compareL, flagL]))
  · have h1 : x ≠ y := by omega
    have h2 : ¬ x ≤ y := by omega
    have h3 : ¬ x < y := by omega
    have h4 : y ≤ x := by omega
    exact Or.inr (Or.inr (by simp [compareL, flagL, *]))
theorem row1 (a b : Int) (ha : 0 ≤ a) (hA : a < 4294967296) (hb : 0 ≤ b) (hB : b < 4294967296) : ∃ L M G E S O, Row 22 16 1 a b L M G E S O ∧ One L M G E S O := by
  have key : ∀ o, shapeL o = (1, 1, 1) → 22 ≤ o → eval2L o 1 a 0 1 b 0 = ((1, flagL (compareL (o - 22 + 18) a b), 0), true) := fun o h1 h2 =>
    cmp_low o a b ha hA hb hB h1 (by simp [whole32, h2])
  have key2 : ∀ o, shapeL o = (1, 1, 1) → 16 ≤ o → o < 22 → eval2L o 1 a 0 1 b 0 = ((1, flagL (compareL o (wrap32 a) (wrap32 b)), 0), true) := fun o h1 h2 h3 =>
    cmp_low o a b ha hA hb hB h1 (by have : ¬ 22 ≤ o := by omega
                                     simp [whole32, this, h2])
  refine ⟨_, _, _, _, _, _, ⟨key 22 (by decide) (by decide), key 23 (by decide) (by decide), key 24 (by decide) (by decide), key 25 (by decide) (by decide), key2 16 (by decide) (by decide) (by decide), key2 17 (by decide) (by decide) (by decide)⟩, ?_⟩
  have he : wrap32 a = wrap32 b ↔ a = b := ⟨fun h => by unfold wrap32 at h; omega, fun h => by rw [h]⟩
  clear key key2
  unfold One
  rcases Int.lt_trichotomy a b with h | h | h
  · have h1 : a ≠ b := by omega
    have h2 : a ≤ b := by omega
    have h3 : ¬ b < a := by omega
    have h4 : ¬ b ≤ a := by omega
    exact Or.inl (by simp [compareL, flagL, *])
  · subst h
    exact Or.inr (Or.inl (by simp [compareL, flagL]))
  · have h1 : a ≠ b := by omega
    have h2 : ¬ a ≤ b := by omega
    have h3 : ¬ a < b := by omega
    have h4 : b ≤ a := by omega
    exact Or.inr (Or.inr (by simp [compareL, flagL, *]))
theorem row2 (a b : Int) : ∃ L M G E S O, Row 48 46 2 a b L M G E S O ∧ One L M G E S O := by
  have key : ∀ o, shapeL o = (2, 2, 1) → isShiftL (o - 30) = false → 46 ≤ o → o < 52 → eval2L o 2 a 0 2 b 0 = ((1, flagL (compareL (o - 30) (wrap64 a) (wrap64 b)), 0), true) := fun o h1 hsh h2 h3 =>
    cmp_long o a b h1 hsh (by have h4 : ¬ 22 ≤ o - 30 := by omega
                              have h5 : 16 ≤ o - 30 := by omega
                              simp [whole64, h4, h5])
  refine ⟨_, _, _, _, _, _, ⟨key 48 (by decide) (by decide) (by decide) (by decide), key 49 (by decide) (by decide) (by decide) (by decide), key 50 (by decide) (by decide) (by decide) (by decide), key 51 (by decide) (by decide) (by decide) (by decide), key 46 (by decide) (by decide) (by decide) (by decide), key 47 (by decide) (by decide) (by decide) (by decide)⟩, ?_⟩
  clear key
  generalize wrap64 a = x
  generalize wrap64 b = y
  unfold One
  rcases Int.lt_trichotomy x y with h | h | h
  · have h1 : x ≠ y := by omega
    have h2 : x ≤ y := by omega
    have h3 : ¬ y < x := by omega
    have h4 : ¬ y ≤ x := by omega
    exact Or.inl (by simp [compareL, flagL, *])
  · subst h
    exact Or.inr (Or.inl (by simp [compareL, flagL]))
  · have h1 : x ≠ y := by omega
    have h2 : ¬ x ≤ y := by omega
    have h3 : ¬ x < y := by omega
    have h4 : y ≤ x := by omega
    exact Or.inr (Or.inr (by simp [compareL, flagL, *]))
theorem row3 (a b : Int) (ha : 0 ≤ a) (hA : a < 18446744073709551616) (hb : 0 ≤ b) (hB : b < 18446744073709551616) : ∃ L M G E S O, Row 52 46 2 a b L M G E S O ∧ One L M G E S O := by
  have key2 : ∀ o, shapeL o = (2, 2, 1) → isShiftL (o - 30) = false → 46 ≤ o → o < 52 → eval2L o 2 a 0 2 b 0 = ((1, flagL (compareL (o - 30) (wrap64 a) (wrap64 b)), 0), true) := fun o h1 hsh h2 h3 =>
    cmp_long o a b h1 hsh (by have h4 : ¬ 22 ≤ o - 30 := by omega
                              have h5 : 16 ≤ o - 30 := by omega
                              simp [whole64, h4, h5])
  have key : ∀ o, shapeL o = (2, 2, 1) → isShiftL (o - 30) = false → 52 ≤ o → eval2L o 2 a 0 2 b 0 = ((1, flagL (compareL (o - 30 - 22 + 18) a b), 0), true) := fun o h1 hsh h2 =>
    cmp_long o a b h1 hsh (by have h4 : 22 ≤ o - 30 := by omega
                              simp [whole64, h4])
  have he : wrap64 a = wrap64 b ↔ a = b := ⟨fun h => by unfold wrap64 at h; omega, fun h => by rw [h]⟩
  refine ⟨_, _, _, _, _, _, ⟨key 52 (by decide) (by decide) (by decide), key 53 (by decide) (by decide) (by decide), key 54 (by decide) (by decide) (by decide), key 55 (by decide) (by decide) (by decide), key2 46 (by decide) (by decide) (by decide) (by decide), key2 47 (by decide) (by decide) (by decide) (by decide)⟩, ?_⟩
  clear key key2 ha hA hb hB
  unfold One
  rcases Int.lt_trichotomy a b with h | h | h
  · have h1 : a ≠ b := by omega
    have h2 : a ≤ b := by omega
    have h3 : ¬ b < a := by omega
    have h4 : ¬ b ≤ a := by omega
    exact Or.inl (by simp [compareL, flagL, *])
  · subst h
    exact Or.inr (Or.inl (by simp [compareL, flagL]))
  · have h1 : a ≠ b := by omega
    have h2 : ¬ a ≤ b := by omega
    have h3 : ¬ a < b := by omega
    have h4 : b ≤ a := by omega
    exact Or.inr (Or.inr (by simp [compareL, flagL, *]))
theorem row4 (a b : Int) : ∃ L M G E S O, Row 68 66 3 a b L M G E S O ∧ (One L M G E S O ∨ None4 L M G E S O) := by
  have key : ∀ o, shapeL o = (3, 3, 1) → 66 ≤ o → eval2L o 3 a 0 3 b 0 = ((1, flagL (fcompareL (o - 66 + 16) a.toNat b.toNat), 0), true) := fun o h1 h2 => cmp_dbl o a b h1 h2 rfl
  refine ⟨_, _, _, _, _, _, ⟨key 68 (by decide) (by decide), key 69 (by decide) (by decide), key 70 (by decide) (by decide), key 71 (by decide) (by decide), key 66 (by decide) (by decide), key 67 (by decide) (by decide)⟩, ?_⟩
  clear key
  unfold One None4
  rcases h : FloatKind.f64.format.order a.toNat b.toNat with _ | c
  · exact Or.inr (by simp [fcompareL, flagL, h])
  · cases c
    · exact Or.inl (Or.inl (by simp [fcompareL, flagL, h]))
    · exact Or.inl (Or.inr (Or.inl (by simp [fcompareL, flagL, h])))
    · exact Or.inl (Or.inr (Or.inr (by simp [fcompareL, flagL, h])))
end Go.Proofs.Ytopnbdblgfjnpaa
