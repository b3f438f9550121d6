/- LexAhead's function, whatever the texts are. -/
import Derived.Test.YtcmfmfgedhfaeaaGreatDoorNf
namespace Go.Proofs.YtcmfmfgedhfaeaaGreatDoor
set_option linter.unusedSimpArgs false
set_option linter.unusedVariables false
open Go.RowKit

theorem behZ_le (l c r : Int) : l ≤ (behZ l c r).1 ∧ (behZ l c r).1 ≤ l + 1 := by
  unfold behZ
  split
  · simp only; omega
  · simp only; omega
/-- How many tokens there are, and in which lines. -/
theorem pcs_bound : ∀ (n : Nat) (x : List UInt8), x.length ≤ n → ∀ sk l c ts, pcs x sk l c = .ok ts → ts.length ≤ x.length + 1 ∧ ∀ t ∈ ts, l ≤ t.l ∧ t.l ≤ l + x.length
  | n, [], h, sk, l, c, ts, hp => by
    rw [pcs_nil] at hp
    cases hp
    refine ⟨by simp, fun t ht => ?_⟩
    simp at ht
    subst ht
    simp [endT]
  | 0, a :: x, h, _, _, _, _, _ => by simp at h
  | n + 1, a :: x0, h, sk, l, c, ts, hp => by
    obtain ⟨x, hx9⟩ : ∃ x, x = a :: x0 := ⟨_, rfl⟩
    rw [← hx9] at h hp ⊢
    have hx : x ≠ [] := by rw [hx9]; simp
    clear hx9
    have hw := decL_w x hx
    have hd : (x.drop (Lib.decodeL x).2).length = x.length - (Lib.decodeL x).2 := List.length_drop
    have hb := behZ_le l c (Lib.decodeL x).1
    rw [pcs_cons x hx] at hp
    split at hp
    · cases hpc : pieceL x with
      | err e => rw [hpc] at hp; simp [stepL] at hp
      | tok k n' b d =>
        rw [hpc] at hp
        simp only [stepL] at hp
        cases hr : pcs (x.drop (Lib.decodeL x).2) ((x.take n').length - (Lib.decodeL x).2) (behZ l c (Lib.decodeL x).1).1 (behZ l c (Lib.decodeL x).1).2 with
        | err _ _ _ => rw [hr] at hp; simp [TR.app] at hp
        | ok ts1 =>
          rw [hr] at hp
          simp only [TR.app, TR.ok.injEq] at hp
          obtain ⟨i1, i2⟩ := pcs_bound n _ (by omega) _ _ _ ts1 hr
          subst hp
          refine ⟨by simp only [List.cons_append, List.nil_append, List.length_cons]; omega, fun t ht => ?_⟩
          rcases List.mem_cons.1 ht with rfl | ht
          · simp only [tkL]; omega
          · have := i2 t ht; omega
    · obtain ⟨i1, i2⟩ := pcs_bound n _ (by omega) _ _ _ ts hp
      refine ⟨by omega, fun t ht => ?_⟩
      have := i2 t ht
      omega
theorem tok_size (s : ByteArray) (ts : List Tk) (h : tokensF s = .ok ts) : s.size ≤ 1048576 := by
  rcases Nat.lt_or_ge 1048576 s.size with h1 | h1
  · unfold tokensF at h; rw [if_pos h1] at h; cases h
  · exact h1
theorem tok_bound (s : ByteArray) (ts : List Tk) (h : tokensF s = .ok ts) : ts.length ≤ 1048577 ∧ ∀ t ∈ ts, 1 ≤ t.l ∧ t.l ≤ 1048577 := by
  have hs := tok_size s ts h
  rw [tokensF_L s hs] at h
  cases hb : brk s.data.toList 1 1 with
  | some p => rw [hb] at h; cases h
  | none =>
    rw [hb] at h
    obtain ⟨i1, i2⟩ := pcs_bound _ _ (Nat.le_refl _) _ _ _ ts h
    rw [← size_list] at i1 i2
    exact ⟨by omega, fun t ht => by have := i2 t ht; omega⟩
theorem tok_errno (s : ByteArray) (l c x : Int) (h : tokensF s = .err l c x) : x = 1 ∨ x = 2 ∨ x = 7 := by
  rcases Nat.lt_or_ge 1048576 s.size with h1 | h1
  · unfold tokensF at h; rw [if_pos h1] at h; cases h; exact Or.inl rfl
  · rw [tokensF_L s h1] at h
    cases hb : brk s.data.toList 1 1 with
    | some p => rw [hb] at h; cases h; exact Or.inl rfl
    | none =>
      rw [hb] at h
      exact Or.inr (pcs_line _ _ (Nat.le_refl _) _ _ _ _ _ _ (Int.le_refl _) h).2
theorem ahead_any (a b : ByteArray) (hbs : b.size ≤ 281474976710656) (w : World) (hT : Tabs w) : Calls Tryz.prog 6 #[.string a, .string b] w fun e w' => e = .returned (.bool true) ∧ Fresh w w' := by
  cases ha : tokensF a with
  | err l c x =>
    have hx := tok_errno a l c x ha
    exact ahead_none a b l c x ha (by rcases hx with rfl | rfl | rfl <;> rfl) (by rcases hx with rfl | rfl | rfl <;> rfl) (by omega) w hT
  | ok la =>
    have has := tok_size a la ha
    obtain ⟨la1, la2⟩ := tok_bound a la ha
    by_cases hs : a.size + b.size < 1048576
    · obtain ⟨ta, le, ce, rfl, hab, herr⟩ := tok_ahead a b la ha hs
      have hn : (ta ++ [endT le ce]).length = ta.length + 1 := by simp
      have hl : (ta ++ [endT le ce])[ta.length]? = some (endT le ce) := by simp
      have hle := la2 (endT le ce) (by simp)
      simp only [endT] at hle
      rw [hn] at la1
      cases hb : tokensF b with
      | err lb cb x =>
        rw [hb] at hab
        obtain ⟨h1, hx⟩ := herr lb cb x hb
        simp only [TR.down, TR.app_nil] at hab
        exact ahead_err a b _ ta.length le ce lb cb x ha hn hl hb hab (by rcases hx with rfl | rfl | rfl <;> rfl) (by rcases hx with rfl | rfl | rfl <;> rfl) (by omega) (by omega) (by omega) (by omega) w hT
      | ok lb =>
        rw [hb] at hab
        simp only [TR.down, TR.app] at hab
        obtain ⟨lb1, lb2⟩ := tok_bound b lb hb
        have hne : 1 ≤ lb.length := by
          rw [tokensF_L b (by omega)] at hb
          cases hbb : brk b.data.toList 1 1 with
          | some p => rw [hbb] at hb; cases hb
          | none =>
            rw [hbb] at hb
            obtain ⟨ts0, l9, c9, h9, _⟩ := pcs_ahead [] _ b.data.toList (Nat.le_refl _) 0 1 1 lb (Nat.zero_le _) hbb hb
            rw [h9]
            simp
        refine ahead_ok a b _ lb (ta ++ lb.map (Tk.down le)) ta.length lb.length le ce ha hn hl hb rfl hne hab (by simp) (by omega) (fun i hi => ?_) (fun j hj => ?_) (by omega) (by omega) (by omega) w hT
        · refine ⟨ta[i], ?_, ?_⟩
          · rw [List.getElem?_append_left hi, List.getElem?_eq_getElem hi]
          · rw [List.getElem?_append_left hi, List.getElem?_eq_getElem hi]
        · have hmem : lb[j] ∈ lb := List.getElem_mem hj
          have := lb2 _ hmem
          refine ⟨lb[j], by rw [List.getElem?_eq_getElem hj], ?_, by omega, by omega⟩
          rw [List.getElem?_append_right (by omega), Nat.add_sub_cancel_left, List.getElem?_map, List.getElem?_eq_getElem hj]
          rfl
    · refine ahead_long a b la ha ?_ (by omega) (by omega) (by omega) w hT
      rw [tokensF_L a has] at ha
      cases hba : brk a.data.toList 1 1 with
      | some p => rw [hba] at ha; cases ha
      | none =>
        rw [hba] at ha
        obtain ⟨ts0, l9, c9, h9, _⟩ := pcs_ahead [] _ a.data.toList (Nat.le_refl _) 0 1 1 la (Nat.zero_le _) hba ha
        rw [h9]
        simp
end Go.Proofs.YtcmfmfgedhfaeaaGreatDoor
