/- What stands behind a line feed changes none of the tokens ahead of it. -/
import Derived.Test.YtcmfmfgedhfaeaaGreatDoorNb
namespace Go.Proofs.YtcmfmfgedhfaeaaGreatDoor
set_option linter.unusedSimpArgs false
set_option linter.unusedVariables false
open Go.RowKit

def Tk.down (d : Int) (t : Tk) : Tk := { t with l := t.l + d }
def TR.down (d : Int) : TR → TR
  | .err l c e => .err (l + d) c e
  | .ok ts => .ok (ts.map (Tk.down d))
theorem TR.down_app (d : Int) (a : List Tk) (r : TR) : TR.down d (TR.app a r) = TR.app (a.map (Tk.down d)) (TR.down d r) := by
  cases r <;> simp [TR.down, TR.app]
theorem behZ_down (l c r d : Int) : behZ (l + d) c r = ((behZ l c r).1 + d, (behZ l c r).2) := by
  unfold behZ
  split
  · simp; omega
  · rfl
theorem pcs_down (d : Int) : ∀ (n : Nat) (x : List UInt8), x.length ≤ n → ∀ sk l c, pcs x sk (l + d) c = TR.down d (pcs x sk l c)
  | 0, x, h, sk, l, c => by
    have : x = [] := List.eq_nil_of_length_eq_zero (by omega)
    subst this
    rfl
  | n + 1, x, h, sk, l, c => by
    by_cases hx : x = []
    · subst hx; rfl
    · have hw := decL_w x hx
      have hd : (x.drop (Lib.decodeL x).2).length = x.length - (Lib.decodeL x).2 := List.length_drop
      rw [pcs_cons x hx, pcs_cons x hx, behZ_down]
      have ih : ∀ sk l c, pcs (x.drop (Lib.decodeL x).2) sk (l + d) c = TR.down d (pcs (x.drop (Lib.decodeL x).2) sk l c) := fun sk l c => pcs_down d n _ (by omega) sk l c
      simp only [ih]
      split
      · cases pieceL x with
        | err e => rfl
        | tok k n' b d' =>
          simp only [stepL]
          rw [TR.down_app]
          rfl
      · rfl
theorem brk_down (d : Int) : ∀ (n : Nat) (x : List UInt8), x.length ≤ n → ∀ l c, brk x (l + d) c = (brk x l c).map fun p => (p.1 + d, p.2)
  | 0, x, h, l, c => by
    have : x = [] := List.eq_nil_of_length_eq_zero (by omega)
    subst this
    rfl
  | n + 1, x, h, l, c => by
    by_cases hx : x = []
    · subst hx; rfl
    · have hw := decL_w x hx
      have hd : (x.drop (Lib.decodeL x).2).length = x.length - (Lib.decodeL x).2 := List.length_drop
      rw [brk_cons x hx, brk_cons x hx, behZ_down]
      simp only [brk_down d n (x.drop (Lib.decodeL x).2) (by omega)]
      split <;> rfl
/-- Two texts, one behind the other. -/
theorem pcs_ahead (y : List UInt8) : ∀ (n : Nat) (x : List UInt8), x.length ≤ n → ∀ sk l c ts, sk ≤ x.length → brk x l c = none → pcs x sk l c = .ok ts →
    ∃ ts0 le ce, ts = ts0 ++ [endT le ce] ∧ pcs (x ++ 10 :: y) sk l c = TR.app ts0 (pcs y 0 (le + 1) 1) ∧ brk (x ++ 10 :: y) l c = brk y (le + 1) 1
  | n, [], h, sk, l, c, ts, hsk, hb, hp => by
    rw [pcs_nil] at hp
    simp only [List.length_nil, Nat.le_zero] at hsk
    subst hsk
    cases hp
    have hd := decL_lo 10 y (by decide)
    have hn : (10 : UInt8) :: y ≠ [] := by simp
    have hbe : behZ l c (((10 : UInt8).toNat : Nat) : Int) = (l + 1, 1) := by unfold behZ; rw [if_pos (by rfl)]
    refine ⟨[], l, c, rfl, ?_, ?_⟩
    · rw [List.nil_append, pcs_cons _ hn, hd, hbe, if_neg (by simp only [not_and]; intro _; decide), TR.app_nil]
      rfl
    · rw [List.nil_append, brk_cons _ hn, hd, hbe, if_neg (by decide)]
      rfl
  | 0, a :: x, h, _, _, _, _, _, _, _ => by simp at h
  | n + 1, a :: x0, h, sk, l, c, ts, hsk, hb, hp => by
    obtain ⟨x, hx9⟩ : ∃ x, x = a :: x0 := ⟨_, rfl⟩
    rw [← hx9] at h hsk hb hp ⊢
    have hx : x ≠ [] := by rw [hx9]; simp
    clear hx9
    have hw := decL_w x hx
    have hd : (x.drop (Lib.decodeL x).2).length = x.length - (Lib.decodeL x).2 := List.length_drop
    rw [brk_cons x hx] at hb
    split at hb
    · cases hb
    rename_i hv
    have hda := decL_app x (10 :: y) hx hv
    have hxa : x ++ 10 :: y ≠ [] := by simp
    have hdr : (x ++ 10 :: y).drop (Lib.decodeL x).2 = x.drop (Lib.decodeL x).2 ++ 10 :: y := List.drop_append_of_le_length hw.2
    rw [pcs_cons _ hxa, brk_cons _ hxa, hda, hdr, if_neg hv]
    rw [pcs_cons x hx] at hp
    split at hp
    · rename_i hc
      rw [if_pos hc]
      cases hpc : pieceL x with
      | err e => rw [hpc] at hp; simp [stepL] at hp
      | tok k n' b d =>
        obtain ⟨hn1, hn2, _⟩ := piece_len x k n' b d hpc
        have hcont : Cont x n' (x.drop n' ++ 10 :: y) := ⟨y, 10, Or.inl rfl, Or.inr rfl⟩
        have hpa := piece_cont x _ k n' b d hpc hcont
        rw [← List.append_assoc, List.take_append_drop] at hpa
        have ht : (x ++ 10 :: y).take n' = x.take n' := List.take_append_of_le_length hn2
        rw [hpc] at hp
        rw [hpa]
        simp only [stepL] at hp ⊢
        rw [ht]
        have hk : tkL (x ++ 10 :: y) l c k n' b d = tkL x l c k n' b d := by unfold tkL; rw [ht]
        rw [hk]
        cases hr : pcs (x.drop (Lib.decodeL x).2) ((x.take n').length - (Lib.decodeL x).2) (behZ l c (Lib.decodeL x).1).1 (behZ l c (Lib.decodeL x).1).2 with
        | err _ _ _ => rw [hr] at hp; simp [TR.app] at hp
        | ok ts1 =>
          rw [hr] at hp
          simp only [TR.app, TR.ok.injEq] at hp
          obtain ⟨ts0, le, ce, h1, h2, h3⟩ := pcs_ahead y n _ (by omega) _ _ _ ts1 (by rw [List.length_take, hd]; omega) hb hr
          refine ⟨tkL x l c k n' b d :: ts0, le, ce, ?_, ?_, h3⟩
          · rw [← hp, h1]; rfl
          · rw [h2, TR.app_app]; rfl
    · rename_i hc
      rw [if_neg hc]
      exact pcs_ahead y n _ (by omega) _ _ _ ts (by rw [hd]; omega) hb hp
theorem behZ_lo1 (l c r : Int) (h : 1 ≤ l) : 1 ≤ (behZ l c r).1 := by
  unfold behZ
  split
  · simp only; omega
  · exact h
/-- Errors stand in a line from 1 on. -/
theorem pcs_line : ∀ (n : Nat) (x : List UInt8), x.length ≤ n → ∀ sk l c le ce e, 1 ≤ l → pcs x sk l c = .err le ce e → 1 ≤ le ∧ (e = 2 ∨ e = 7)
  | n, [], h, sk, l, c, le, ce, e, hl, hp => by rw [pcs_nil] at hp; cases hp
  | 0, a :: x, h, _, _, _, _, _, _, _, _ => by simp at h
  | n + 1, a :: x0, h, sk, l, c, le, ce, e, hl, hp => by
    have hx : a :: x0 ≠ [] := by simp
    have hw := decL_w _ hx
    have hd : ((a :: x0).drop (Lib.decodeL (a :: x0)).2).length = (a :: x0).length - (Lib.decodeL (a :: x0)).2 := List.length_drop
    rw [pcs_cons _ hx] at hp
    split at hp
    · cases hpc : pieceL (a :: x0) with
      | err e' =>
        rw [hpc] at hp
        simp only [stepL, TR.err.injEq] at hp
        obtain ⟨rfl, rfl, rfl⟩ := hp
        have := pieceL_err _ _ hpc
        exact ⟨hl, by omega⟩
      | tok k n' b d =>
        rw [hpc] at hp
        simp only [stepL] at hp
        cases hr : pcs ((a :: x0).drop (Lib.decodeL (a :: x0)).2) (((a :: x0).take n').length - (Lib.decodeL (a :: x0)).2) (behZ l c (Lib.decodeL (a :: x0)).1).1 (behZ l c (Lib.decodeL (a :: x0)).1).2 with
        | ok _ => rw [hr] at hp; simp [TR.app] at hp
        | err l' c' e' =>
          rw [hr] at hp
          simp only [TR.app, TR.err.injEq] at hp
          obtain ⟨rfl, rfl, rfl⟩ := hp
          exact pcs_line n _ (by simp only [List.length_cons] at *; omega) _ _ _ _ _ _ (behZ_lo1 _ _ _ hl) hr
    · exact pcs_line n _ (by simp only [List.length_cons] at *; omega) _ _ _ _ _ _ (behZ_lo1 _ _ _ hl) hp
theorem brk_line : ∀ (n : Nat) (x : List UInt8), x.length ≤ n → ∀ l c p, 1 ≤ l → brk x l c = some p → 1 ≤ p.1
  | n, [], h, l, c, p, hl, hp => by rw [brk_nil] at hp; cases hp
  | 0, a :: x, h, _, _, _, _, _ => by simp at h
  | n + 1, a :: x0, h, l, c, p, hl, hp => by
    have hx : a :: x0 ≠ [] := by simp
    have hw := decL_w _ hx
    have hd : ((a :: x0).drop (Lib.decodeL (a :: x0)).2).length = (a :: x0).length - (Lib.decodeL (a :: x0)).2 := List.length_drop
    rw [brk_cons _ hx] at hp
    split at hp
    · cases hp; exact hl
    · exact brk_line n _ (by simp only [List.length_cons] at *; omega) _ _ _ (behZ_lo1 _ _ _ hl) hp
/-- The tokens of two texts, a line feed between. -/
theorem tok_ahead (a b : ByteArray) (la : List Tk) (ha : tokensF a = .ok la) (hs : a.size + b.size < 1048576) :
    ∃ ta le ce, la = ta ++ [endT le ce] ∧ tokensF ((a ++ ⟨#[10]⟩) ++ b) = TR.app (match tokensF b with | .err _ _ _ => [] | .ok _ => ta) (TR.down le (tokensF b)) ∧ ∀ l c e, tokensF b = .err l c e → 1 ≤ l ∧ (e = 1 ∨ e = 2 ∨ e = 7) := by
  rw [tokensF_L a (by omega)] at ha
  cases hba : brk a.data.toList 1 1 with
  | some p => rw [hba] at ha; cases ha
  | none =>
    rw [hba] at ha
    obtain ⟨ta, le, ce, h1, h2, h3⟩ := pcs_ahead b.data.toList a.data.toList.length a.data.toList (Nat.le_refl _) 0 1 1 la (Nat.zero_le _) hba ha
    have hcat : ((a ++ ⟨#[10]⟩) ++ b).data.toList = a.data.toList ++ 10 :: b.data.toList := by
      rw [ByteArray.data_append, Array.toList_append, ByteArray.data_append, Array.toList_append]
      simp
    have hsz : ((a ++ (⟨#[10]⟩ : ByteArray)) ++ b).size ≤ 1048576 := by
      rw [ByteArray.size_append, ByteArray.size_append]
      have : (⟨#[10]⟩ : ByteArray).size = 1 := rfl
      omega
    refine ⟨ta, le, ce, h1, ?_, ?_⟩
    · rw [tokensF_L _ hsz, hcat, h3, tokensF_L b (by omega), Int.add_comm le 1, brk_down le _ _ (Nat.le_refl _)]
      cases hbb : brk b.data.toList 1 1 with
      | some p => rfl
      | none =>
        simp only [Option.map_none, brkT]
        rw [h2, Int.add_comm le 1, pcs_down le _ _ (Nat.le_refl _)]
        cases pcs b.data.toList 0 1 1 <;> rfl
    · intro l c e hb
      rw [tokensF_L b (by omega)] at hb
      cases hbb : brk b.data.toList 1 1 with
      | some p =>
        rw [hbb] at hb
        simp only [brkT, TR.err.injEq] at hb
        obtain ⟨rfl, rfl, rfl⟩ := hb
        exact ⟨brk_line _ _ (Nat.le_refl _) 1 1 p (Int.le_refl _) hbb, Or.inl rfl⟩
      | none =>
        rw [hbb] at hb
        have := pcs_line _ _ (Nat.le_refl _) _ _ _ _ _ _ (Int.le_refl _) hb
        exact ⟨this.1, Or.inr this.2⟩
end Go.Proofs.YtcmfmfgedhfaeaaGreatDoor
