/- span and what stands in quotes, over bytes. -/
import Derived.Test.YtcmfmfgedhfaeaaGreatDoorPa
import Derived.Test.YtcmfmfgedhfaeaaGreatDoorLd
namespace Go.Proofs.YtcmfmfgedhfaeaaGreatDoor
set_option linter.unusedSimpArgs false
set_option linter.unusedVariables false

/-- How many bytes at the beginning go on. -/
def spanL (p : Int → Bool) : List UInt8 → Nat
  | [] => 0
  | c :: r => if p (c.toNat : Int) then 1 + spanL p r else 0
theorem spanL_le (p : Int → Bool) : ∀ l, spanL p l ≤ l.length
  | [] => Nat.le_refl _
  | c :: r => by
    have := spanL_le p r
    simp only [spanL, List.length_cons]; split <;> omega
theorem spanF_L (p : Int → Bool) (hp : ∀ r : Int, 128 ≤ r → p r = false) (s : ByteArray) : ∀ f pos, pos ≤ s.size → s.size ≤ pos + f → spanF p s f pos = pos + spanL p (s.data.toList.drop pos)
  | 0, pos, h1, h2 => by
    have : pos = s.size := by omega
    subst this
    rw [List.drop_eq_nil_of_le (by rw [size_list]; exact Nat.le_refl _)]
    simp [spanF, spanL]
  | f + 1, pos, h1, h2 => by
    by_cases h : pos < s.size
    · rw [drop_cons _ _ (by rw [← size_list]; exact h)]
      simp only [spanF, h, if_true, spanL]
      by_cases hb : (s.data.toList.getD pos 0).toNat < 128
      · rw [dec_lo _ _ hb]
        simp only
        rw [spanF_L p hp s f (pos + 1) (by omega) (by omega)]
        split <;> omega
      · obtain ⟨a1, a2, a3, a4⟩ := dec_hi s pos h hb
        rw [hp _ (by omega), hp _ (by omega)]
        simp
    · have : pos = s.size := by omega
      subst this
      rw [List.drop_eq_nil_of_le (by rw [size_list]; exact Nat.le_refl _)]
      simp [spanF, spanL]
theorem nameZ_hi (r : Int) (h : 128 ≤ r) : nameZ r = false := by
  simp only [nameZ, letterZ, digitZ, Bool.or_eq_false_iff, Bool.and_eq_false_iff, decide_eq_false_iff_not, beq_eq_false_iff_ne]
  omega
theorem numZ_hi (r : Int) (h : 128 ≤ r) : numZ r = false := by
  simp only [numZ, nameZ_hi r h, Bool.false_or, beq_eq_false_iff_ne]
  omega
theorem letterZ_hi (r : Int) (h : 128 ≤ r) : letterZ r = false := by
  simp only [letterZ, Bool.or_eq_false_iff, Bool.and_eq_false_iff, decide_eq_false_iff_not, beq_eq_false_iff_ne]
  omega
theorem digitZ_hi (r : Int) (h : 128 ≤ r) : digitZ r = false := by
  simp only [digitZ, Bool.and_eq_false_iff, decide_eq_false_iff_not]
  omega
theorem blankZ_hi (r : Int) (h : 128 ≤ r) : blankZ r = false := by
  simp only [blankZ, Bool.or_eq_false_iff, beq_eq_false_iff_ne]
  omega
/-- Up to the closing quote, or the line's end: rune by rune. -/
def quoF (q : Int) (s : ByteArray) : Nat → Nat → Bool → Nat
  | 0, _, _ => s.size
  | f + 1, pos, esc => if pos < s.size then (if (Utf8.decode s pos).1 == (10 : Int) || (((Utf8.decode s pos).1 : Int) == q && !esc) then pos else quoF q s f (pos + (Utf8.decode s pos).2) ((((Utf8.decode s pos).1 : Int) == 92) && !esc)) else s.size
/-- The same byte by byte. -/
def quoL (q : Int) : Bool → List UInt8 → Nat
  | _, [] => 0
  | esc, c :: r => if (c.toNat : Int) == 10 || ((c.toNat : Int) == q && !esc) then 0 else 1 + quoL q ((c.toNat : Int) == 92 && !esc) r
theorem quoL_le (q : Int) : ∀ (l : List UInt8) (e : Bool), quoL q e l ≤ l.length
  | [], _ => Nat.le_refl _
  | c :: r, e => by
    have := quoL_le q r ((c.toNat : Int) == 92 && !e)
    simp only [quoL, List.length_cons]
    split <;> omega
theorem quoL_hi (q : Int) (hq : q < 128) (l : List UInt8) : ∀ (n pos : Nat) (esc : Bool), 1 ≤ n → pos + n ≤ l.length → (∀ j, pos ≤ j → j < pos + n → 128 ≤ (l.getD j 0).toNat) → quoL q esc (l.drop pos) = n + quoL q false (l.drop (pos + n))
  | 0, _, _, h, _, _ => absurd h (by omega)
  | n + 1, pos, esc, h, h2, h3 => by
    rw [drop_cons _ _ (by omega)]
    have hc := h3 pos (by omega) (by omega)
    have e1 : (((l.getD pos 0).toNat : Int) == 10) = false := by simp only [beq_eq_false_iff_ne]; omega
    have e2 : (((l.getD pos 0).toNat : Int) == q) = false := by simp only [beq_eq_false_iff_ne]; omega
    have e3 : (((l.getD pos 0).toNat : Int) == 92) = false := by simp only [beq_eq_false_iff_ne]; omega
    simp only [quoL, e1, e2, e3, Bool.false_and, Bool.false_or]
    cases n with
    | zero => simp
    | succ n =>
      rw [quoL_hi q hq l (n + 1) (pos + 1) false (by omega) (by omega) (fun j j1 j2 => h3 j (by omega) (by omega)), show pos + 1 + (n + 1) = pos + (n + 1 + 1) by omega]
      simp; omega
theorem quoF_L (q : Int) (hq : q < 128) (s : ByteArray) : ∀ f pos esc, pos ≤ s.size → s.size ≤ pos + f → quoF q s f pos esc = pos + quoL q esc (s.data.toList.drop pos)
  | 0, pos, esc, h1, h2 => by
    have : pos = s.size := by omega
    subst this
    rw [List.drop_eq_nil_of_le (by rw [size_list]; exact Nat.le_refl _)]
    simp [quoF, quoL]
  | f + 1, pos, esc, h1, h2 => by
    by_cases h : pos < s.size
    · by_cases hb : (s.data.toList.getD pos 0).toNat < 128
      · rw [drop_cons _ _ (by rw [← size_list]; exact h)]
        simp only [quoF, h, if_true, quoL]
        rw [dec_lo _ _ hb]
        simp only
        rw [quoF_L q hq s f (pos + 1) _ (by omega) (by omega)]
        split <;> omega
      · obtain ⟨a1, a2, a3, a4⟩ := dec_hi s pos h hb
        rw [quoL_hi q hq _ (Utf8.decode s pos).2 pos esc a2 (by rw [← size_list]; omega) a4]
        simp only [quoF, h, if_true]
        have e1 : (((Utf8.decode s pos).1 : Int) == 10) = false := by simp only [beq_eq_false_iff_ne]; omega
        have e2 : (((Utf8.decode s pos).1 : Int) == q) = false := by simp only [beq_eq_false_iff_ne]; omega
        have e3 : (((Utf8.decode s pos).1 : Int) == 92) = false := by simp only [beq_eq_false_iff_ne]; omega
        rw [e1, e2, e3]
        simp only [Bool.false_and, Bool.false_or]
        rw [quoF_L q hq s f _ _ (by omega) (by omega)]
        simp; omega
    · have : pos = s.size := by omega
      subst this
      rw [List.drop_eq_nil_of_le (by rw [size_list]; exact Nat.le_refl _)]
      simp [quoF, quoL]
end Go.Proofs.YtcmfmfgedhfaeaaGreatDoor
