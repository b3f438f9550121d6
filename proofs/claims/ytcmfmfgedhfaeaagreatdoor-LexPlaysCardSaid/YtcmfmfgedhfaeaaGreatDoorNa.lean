/- The tokens of a row of bytes: steps, what is behind a blank. -/
import Derived.Test.YtcmfmfgedhfaeaaGreatDoorMc
namespace Go.Proofs.YtcmfmfgedhfaeaaGreatDoor
set_option linter.unusedSimpArgs false
set_option linter.unusedVariables false
open Go.RowKit

theorem decN_pre (n m b0 b1 b2 b3 c1 c2 c3 : Nat) (h : Lib.decodeN n b0 b1 b2 b3 ≠ (65533, 1)) (hm : (Lib.decodeN n b0 b1 b2 b3).2 ≤ m)
    (h1 : 1 < (Lib.decodeN n b0 b1 b2 b3).2 → c1 = b1) (h2 : 2 < (Lib.decodeN n b0 b1 b2 b3).2 → c2 = b2) (h3 : 3 < (Lib.decodeN n b0 b1 b2 b3).2 → c3 = b3) :
    Lib.decodeN m b0 c1 c2 c3 = Lib.decodeN n b0 b1 b2 b3 := by
  revert h hm h1 h2 h3
  unfold Lib.decodeN
  by_cases k0 : b0 < 128
  · simp only [k0, if_true]; intros; trivial
  · simp only [k0, if_false]
    by_cases k6 : b0 / 32 = 6 ∧ (1 < n ∧ b1 / 64 = 2)
    · simp only [k6, and_self, if_true]
      split
      · intro h hm h1 h2 h3
        simp only at hm h1
        obtain rfl := h1 (by omega)
        rw [if_pos ⟨trivial, by omega, k6.2.2⟩, if_pos (by assumption)]
      · intro h; exact absurd rfl h
    · rw [if_neg k6]
      by_cases k14 : b0 / 16 = 14 ∧ (1 < n ∧ b1 / 64 = 2) ∧ (2 < n ∧ b2 / 64 = 2)
      · rw [if_pos k14]
        split
        · rename_i hc
          intro h hm h1 h2 h3
          simp only at hm h1 h2
          obtain rfl := h1 (by omega)
          obtain rfl := h2 (by omega)
          rw [if_neg (by omega), if_pos ⟨k14.1, ⟨by omega, k14.2.1.2⟩, by omega, k14.2.2.2⟩, if_pos hc]
        · intro h; exact absurd rfl h
      · rw [if_neg k14]
        by_cases k30 : b0 / 8 = 30 ∧ (1 < n ∧ b1 / 64 = 2) ∧ (2 < n ∧ b2 / 64 = 2) ∧ (3 < n ∧ b3 / 64 = 2)
        · rw [if_pos k30]
          split
          · rename_i hc
            intro h hm h1 h2 h3
            simp only at hm h1 h2 h3
            obtain rfl := h1 (by omega)
            obtain rfl := h2 (by omega)
            obtain rfl := h3 (by omega)
            rw [if_neg (by omega), if_neg (by omega), if_pos ⟨k30.1, ⟨by omega, k30.2.1.2⟩, ⟨by omega, k30.2.2.1.2⟩, by omega, k30.2.2.2.2⟩, if_pos hc]
          · intro h; exact absurd rfl h
        · rw [if_neg k30]
          intro h; exact absurd rfl h
/-- A rune is told by its own bytes. -/
theorem decL_pre (x z : List UInt8) (h : Lib.decodeL x ≠ (65533, 1)) (hz : (Lib.decodeL x).2 ≤ z.length) (hs : ∀ i, i < (Lib.decodeL x).2 → z.getD i 0 = x.getD i 0) : Lib.decodeL z = Lib.decodeL x := by
  have hw : 1 ≤ (Lib.decodeL x).2 := Lib.decodeL_width x
  have h0 := hs 0 (by omega)
  rw [Lib.decodeL_N z, Lib.decodeL_N x, h0]
  rw [Lib.decodeL_N x] at h hz hs
  exact decN_pre _ _ _ _ _ _ _ _ _ h hz (fun k => by rw [hs 1 k]) (fun k => by rw [hs 2 k]) (fun k => by rw [hs 3 k])
theorem decL_w (x : List UInt8) (h : x ≠ []) : 1 ≤ (Lib.decodeL x).2 ∧ (Lib.decodeL x).2 ≤ x.length := ⟨Lib.decodeL_width x, by
  have hs : 0 < (⟨x.toArray⟩ : ByteArray).size := by rw [mk_size]; exact List.length_pos_iff.2 h
  have e : Lib.decodeL x = Utf8.decode ⟨x.toArray⟩ 0 := rfl
  by_cases hb : ((⟨x.toArray⟩ : ByteArray).data.toList.getD 0 0).toNat < 128
  · rw [e, dec_lo _ _ hb]; rw [mk_size] at hs; exact hs
  · have := (dec_hi ⟨x.toArray⟩ 0 hs hb).2.2.1
    rw [e]; rw [mk_size] at this; omega⟩
theorem decL_app (x y : List UInt8) (hx : x ≠ []) (h : Lib.decodeL x ≠ (65533, 1)) : Lib.decodeL (x ++ y) = Lib.decodeL x := by
  have hw := decL_w x hx
  refine decL_pre x (x ++ y) h (by rw [List.length_append]; omega) (fun i hi => ?_)
  rw [List.getD_eq_getElem?_getD, List.getD_eq_getElem?_getD, List.getElem?_append_left (by omega)]
theorem decL_lo (c : UInt8) (y : List UInt8) (h : c.toNat < 128) : Lib.decodeL (c :: y) = (c.toNat, 1) := by
  have := dec_lo ⟨(c :: y).toArray⟩ 0 (by simpa using h)
  exact this
def tkL (x : List UInt8) (l c : Int) (k n b : Nat) (d : List UInt8) : Tk := ⟨k, l, c, ⟨(x.take n).toArray⟩, b, ⟨d.toArray⟩⟩
def stepL (x : List UInt8) (l c : Int) (K : Nat → TR) : PR → TR
  | .err e => .err l c e
  | .tok k n b d => TR.app [tkL x l c k n b d] (K (x.take n).length)
def piecesL : Nat → List UInt8 → Nat → Int → Int → TR
  | 0, _, _, l, c => .ok [endT l c]
  | f + 1, x, sk, l, c =>
    if x = [] then .ok [endT l c]
    else if sk = 0 ∧ blankZ (Lib.decodeL x).1 = false then
      stepL x l c (fun n => piecesL f (x.drop (Lib.decodeL x).2) (n - (Lib.decodeL x).2) (behZ l c (Lib.decodeL x).1).1 (behZ l c (Lib.decodeL x).1).2) (pieceL x)
    else piecesL f (x.drop (Lib.decodeL x).2) (sk - (Lib.decodeL x).2) (behZ l c (Lib.decodeL x).1).1 (behZ l c (Lib.decodeL x).1).2
theorem piecesL_fuel : ∀ f g x sk l c, x.length ≤ f → x.length ≤ g → piecesL f x sk l c = piecesL g x sk l c
  | 0, 0, x, sk, l, c, _, _ => rfl
  | 0, g + 1, x, sk, l, c, h, _ => by
    have : x = [] := List.eq_nil_of_length_eq_zero (by omega)
    subst this
    simp [piecesL]
  | f + 1, 0, x, sk, l, c, _, h => by
    have : x = [] := List.eq_nil_of_length_eq_zero (by omega)
    subst this
    simp [piecesL]
  | f + 1, g + 1, x, sk, l, c, h1, h2 => by
    unfold piecesL
    by_cases hx : x = []
    · rw [if_pos hx, if_pos hx]
    · rw [if_neg hx, if_neg hx]
      have hw := decL_w x hx
      have hd : (x.drop (Lib.decodeL x).2).length = x.length - (Lib.decodeL x).2 := List.length_drop
      have ih : ∀ sk l c, piecesL f (x.drop (Lib.decodeL x).2) sk l c = piecesL g (x.drop (Lib.decodeL x).2) sk l c := fun sk l c => piecesL_fuel f g _ sk l c (by omega) (by omega)
      simp only [ih]
/-- The tokens of a row of bytes. -/
def pcs (x : List UInt8) (sk : Nat) (l c : Int) : TR := piecesL x.length x sk l c
theorem pcs_nil (sk : Nat) (l c : Int) : pcs [] sk l c = .ok [endT l c] := rfl
theorem pcs_cons (x : List UInt8) (hx : x ≠ []) (sk : Nat) (l c : Int) : pcs x sk l c =
    if sk = 0 ∧ blankZ (Lib.decodeL x).1 = false then
      stepL x l c (fun n => pcs (x.drop (Lib.decodeL x).2) (n - (Lib.decodeL x).2) (behZ l c (Lib.decodeL x).1).1 (behZ l c (Lib.decodeL x).1).2) (pieceL x)
    else pcs (x.drop (Lib.decodeL x).2) (sk - (Lib.decodeL x).2) (behZ l c (Lib.decodeL x).1).1 (behZ l c (Lib.decodeL x).1).2 := by
  have hw := decL_w x hx
  have hd : (x.drop (Lib.decodeL x).2).length = x.length - (Lib.decodeL x).2 := List.length_drop
  have e : pcs x sk l c = piecesL (x.length - 1 + 1) x sk l c := piecesL_fuel _ _ _ _ _ _ (Nat.le_refl _) (by omega)
  rw [e]
  unfold piecesL pcs
  rw [if_neg hx]
  have ih : ∀ sk l c, piecesL (x.length - 1) (x.drop (Lib.decodeL x).2) sk l c = piecesL (x.drop (Lib.decodeL x).2).length (x.drop (Lib.decodeL x).2) sk l c := fun sk l c => piecesL_fuel _ _ _ _ _ _ (by omega) (Nat.le_refl _)
  simp only [ih]
def brokL : Nat → List UInt8 → Int → Int → Option (Int × Int)
  | 0, _, _, _ => none
  | f + 1, x, l, c => if x = [] then none else if Lib.decodeL x = (65533, 1) then some (l, c) else brokL f (x.drop (Lib.decodeL x).2) (behZ l c (Lib.decodeL x).1).1 (behZ l c (Lib.decodeL x).1).2
theorem brokL_fuel : ∀ f g x l c, x.length ≤ f → x.length ≤ g → brokL f x l c = brokL g x l c
  | 0, 0, x, l, c, _, _ => rfl
  | 0, g + 1, x, l, c, h, _ => by
    have : x = [] := List.eq_nil_of_length_eq_zero (by omega)
    subst this
    simp [brokL]
  | f + 1, 0, x, l, c, _, h => by
    have : x = [] := List.eq_nil_of_length_eq_zero (by omega)
    subst this
    simp [brokL]
  | f + 1, g + 1, x, l, c, h1, h2 => by
    unfold brokL
    by_cases hx : x = []
    · rw [if_pos hx, if_pos hx]
    · rw [if_neg hx, if_neg hx]
      have hw := decL_w x hx
      have hd : (x.drop (Lib.decodeL x).2).length = x.length - (Lib.decodeL x).2 := List.length_drop
      have ih : ∀ l c, brokL f (x.drop (Lib.decodeL x).2) l c = brokL g (x.drop (Lib.decodeL x).2) l c := fun l c => brokL_fuel f g _ l c (by omega) (by omega)
      simp only [ih]
def brk (x : List UInt8) (l c : Int) : Option (Int × Int) := brokL x.length x l c
theorem brk_nil (l c : Int) : brk [] l c = none := rfl
theorem brk_cons (x : List UInt8) (hx : x ≠ []) (l c : Int) : brk x l c = if Lib.decodeL x = (65533, 1) then some (l, c) else brk (x.drop (Lib.decodeL x).2) (behZ l c (Lib.decodeL x).1).1 (behZ l c (Lib.decodeL x).1).2 := by
  have hw := decL_w x hx
  have hd : (x.drop (Lib.decodeL x).2).length = x.length - (Lib.decodeL x).2 := List.length_drop
  have e : brk x l c = brokL (x.length - 1 + 1) x l c := brokL_fuel _ _ _ _ _ (Nat.le_refl _) (by omega)
  rw [e]
  unfold brokL brk
  rw [if_neg hx]
  have ih : ∀ l c, brokL (x.length - 1) (x.drop (Lib.decodeL x).2) l c = brokL (x.drop (Lib.decodeL x).2).length (x.drop (Lib.decodeL x).2) l c := fun l c => brokL_fuel _ _ _ _ _ (by omega) (Nat.le_refl _)
  simp only [ih]
theorem tkOf_L (s : ByteArray) (pos : Nat) (l c : Int) (k n b : Nat) (d : List UInt8) : tkOf s pos l c k n b d = tkL (s.data.toList.drop pos) l c k n b d := by
  unfold tkOf tkL
  congr 1
  apply ByteArray.ext
  apply Array.toList_inj.1
  rw [Lib.extract_data, Lib.extract_to_end]
  simp
theorem dec_w (s : ByteArray) (pos : Nat) (h : pos < s.size) : pos + (Utf8.decode s pos).2 ≤ s.size := by
  by_cases hb : (s.data.toList.getD pos 0).toNat < 128
  · rw [dec_lo s pos hb]; exact h
  · exact (dec_hi s pos h hb).2.2.1
theorem piecesF_L (s : ByteArray) : ∀ f pos ed l c, pos ≤ s.size → piecesF s f pos ed l c = piecesL f (s.data.toList.drop pos) (ed - pos) l c
  | 0, pos, ed, l, c, h => rfl
  | f + 1, pos, ed, l, c, h => by
    by_cases hp : pos < s.size
    · have hne : s.data.toList.drop pos ≠ [] := by
        intro e
        have := congrArg List.length e
        rw [List.length_drop, ← size_list] at this
        simp at this
        omega
      have hw := dec_w s pos hp
      unfold piecesF piecesL
      rw [if_pos hp, if_neg hne, Lib.decodeL_drop]
      have ih : ∀ e l c, piecesF s f (pos + (Utf8.decode s pos).2) e l c = piecesL f ((s.data.toList.drop pos).drop (Utf8.decode s pos).2) (e - pos - (Utf8.decode s pos).2) l c := fun e l c => by
        rw [piecesF_L s f _ e l c hw, List.drop_drop, Nat.sub_sub]
      by_cases hc : ed ≤ pos ∧ blankZ (Utf8.decode s pos).1 = false
      · rw [if_pos hc, if_pos ⟨by omega, hc.2⟩]
        cases hpc : pieceL (s.data.toList.drop pos) with
        | err e => rfl
        | tok k n b d =>
          simp only [stepT, stepL, tkOf_L, ih]
          have : (tkL (s.data.toList.drop pos) l c k n b d).text.size = ((s.data.toList.drop pos).take n).length := by unfold tkL; rw [mk_size]
          rw [this]
          congr 2
          omega
      · rw [if_neg hc, if_neg (fun e => hc ⟨by omega, e.2⟩), ih]
    · rw [piecesF_end _ _ _ _ _ _ hp]
      have : s.data.toList.drop pos = [] := List.drop_eq_nil_of_le (by rw [← size_list]; omega)
      rw [this]
      simp [piecesL]
theorem brokF_L (s : ByteArray) : ∀ f pos l c, pos ≤ s.size → brokF s f pos l c = brokL f (s.data.toList.drop pos) l c
  | 0, pos, l, c, h => rfl
  | f + 1, pos, l, c, h => by
    by_cases hp : pos < s.size
    · have hne : s.data.toList.drop pos ≠ [] := by
        intro e
        have := congrArg List.length e
        rw [List.length_drop, ← size_list] at this
        simp at this
        omega
      have hw := dec_w s pos hp
      unfold brokF brokL
      rw [if_pos hp, if_neg hne, Lib.decodeL_drop, brokF_L s f _ _ _ hw, List.drop_drop]
    · rw [brokF_end _ _ _ _ _ hp]
      have : s.data.toList.drop pos = [] := List.drop_eq_nil_of_le (by rw [← size_list]; omega)
      rw [this]
      simp [brokL]
/-- Tokens, of a row of bytes. -/
def brkT (x : List UInt8) : Option (Int × Int) → TR
  | some p => .err p.1 p.2 1
  | none => pcs x 0 1 1
theorem tokensF_L (s : ByteArray) (h : s.size ≤ 1048576) : tokensF s = brkT s.data.toList (brk s.data.toList 1 1) := by
  unfold tokensF
  rw [if_neg (by omega), brokF_L s _ _ _ _ (Nat.zero_le _), List.drop_zero]
  have e1 : brokL s.size s.data.toList 1 1 = brk s.data.toList 1 1 := by unfold brk; rw [size_list]
  rw [e1]
  cases brk s.data.toList 1 1 with
  | some p => rfl
  | none =>
    unfold brokT brkT
    rw [piecesF_L s _ _ _ _ _ (Nat.zero_le _), List.drop_zero]
    unfold pcs
    rw [size_list]
end Go.Proofs.YtcmfmfgedhfaeaaGreatDoor
