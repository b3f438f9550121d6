/- A token is told by its own bytes, where a blank stands behind it. -/
import Derived.Test.YtcmfmfgedhfaeaaGreatDoorNa
namespace Go.Proofs.YtcmfmfgedhfaeaaGreatDoor
set_option linter.unusedSimpArgs false
set_option linter.unusedVariables false
open Go.RowKit

/-- What may stand behind a token's bytes: a blank; or what stood there, and then a blank. -/
def Cont (x : List UInt8) (n : Nat) (w : List UInt8) : Prop := ∃ y c, (c = 10 ∨ c = 32) ∧ (w = c :: y ∨ w = x.drop n ++ c :: y)
theorem span_spec (p : Int → Bool) : ∀ x : List UInt8, (∀ c ∈ x.take (spanL p x), p (c.toNat : Int) = true) ∧ (∀ c r, x.drop (spanL p x) = c :: r → p (c.toNat : Int) = false)
  | [] => by simp [spanL]
  | a :: r => by
    obtain ⟨h1, h2⟩ := span_spec p r
    simp only [spanL]
    by_cases ha : p (a.toNat : Int) = true
    · rw [if_pos ha, Nat.add_comm 1]
      simp only [List.take_succ_cons, List.drop_succ_cons, List.mem_cons]
      exact ⟨fun c hc => hc.elim (fun e => e ▸ ha) (h1 c), h2⟩
    · rw [if_neg ha]
      simp only [List.take_zero, List.drop_zero]
      refine ⟨fun c hc => by simp at hc, fun c r' e => ?_⟩
      cases e
      simpa using ha
theorem span_app (p : Int → Bool) : ∀ (u w : List UInt8), (∀ c ∈ u, p (c.toNat : Int) = true) → (∀ c r, w = c :: r → p (c.toNat : Int) = false) → spanL p (u ++ w) = u.length
  | [], w, _, h2 => by
    cases w with
    | nil => rfl
    | cons c r => simp only [List.nil_append, spanL, h2 c r rfl]; rfl
  | a :: u, w, h1, h2 => by
    simp only [List.cons_append, spanL, List.length_cons]
    rw [if_pos (h1 a (by simp)), span_app p u w (fun c hc => h1 c (by simp [hc])) h2]
    omega
theorem span_cont (p : Int → Bool) (hp : p 10 = false ∧ p 32 = false) (x w : List UInt8) (h : Cont x (spanL p x) w) : spanL p (x.take (spanL p x) ++ w) = spanL p x := by
  obtain ⟨h1, h2⟩ := span_spec p x
  have hl := spanL_le p x
  have hcb : ∀ c : UInt8, (c = 10 ∨ c = 32) → p (c.toNat : Int) = false := fun c hc => by rcases hc with rfl | rfl; exact hp.1; exact hp.2
  rw [span_app p _ _ h1 ?_]
  · rw [List.length_take]; omega
  · obtain ⟨y, c, hc, rfl | rfl⟩ := h
    · intro c' r' e; cases e; exact hcb c hc
    · intro c' r' e
      cases hd : x.drop (spanL p x) with
      | nil => rw [hd] at e; cases e; exact hcb c hc
      | cons a r => rw [hd] at e; cases e; exact h2 _ _ hd
theorem take_cont (x w : List UInt8) (n : Nat) (hn : n ≤ x.length) : (x.take n ++ w).take n = x.take n := by
  rw [List.take_append_of_le_length (by rw [List.length_take]; omega), List.take_take, Nat.min_self]
theorem name_cont (x w : List UInt8) (k n b : Nat) (d : List UInt8) (h : nameL x = .tok k n b d) (hw : Cont x n w) : nameL (x.take n ++ w) = .tok k n b d := by
  unfold nameL at h
  have hn : n = spanL nameZ x := by
    split at h
    · cases h
    · split at h <;> cases h <;> rfl
  subst hn
  have hs := span_cont nameZ (by decide) x w hw
  unfold nameL
  rw [hs, take_cont x w _ (spanL_le _ _)]
  exact h
theorem num_cont (x w : List UInt8) (k n b : Nat) (d : List UInt8) (h : numL x = .tok k n b d) (hw : Cont x n w) : numL (x.take n ++ w) = .tok k n b d := by
  unfold numL at h
  have hn : n = spanL numZ x := by
    split at h
    · cases h; rfl
    · split at h
      · cases h; rfl
      · cases h
  subst hn
  have hs := span_cont numZ (by decide) x w hw
  unfold numL
  rw [hs, take_cont x w _ (spanL_le _ _)]
  exact h
theorem signs_blank : ∀ s ∈ signsL, (10 : UInt8) ∉ s ∧ (32 : UInt8) ∉ s ∧ s.length ≤ 3 := by decide
theorem signNL_le (x : List UInt8) : ∀ m, signNL x m ≤ m
  | 0 => Nat.le_refl _
  | m + 1 => by
    unfold signNL
    split
    · exact Nat.le_refl _
    · exact Nat.le_succ_of_le (signNL_le x m)
theorem signNL_in (x : List UInt8) : ∀ m, signNL x m ≠ 0 → x.take (signNL x m) ∈ signsL
  | 0, h => absurd rfl h
  | m + 1, h => by
    unfold signNL at h ⊢
    split
    · assumption
    · rename_i hc
      rw [if_neg hc] at h
      exact signNL_in x m h
theorem signNL_max (x : List UInt8) : ∀ m k, signNL x m < k → k ≤ m → x.take k ∉ signsL
  | 0, k, h, h2 => by omega
  | m + 1, k, h, h2 => by
    unfold signNL at h
    split at h
    · omega
    · rename_i hc
      by_cases e : k = m + 1
      · subst e; exact hc
      · exact signNL_max x m k h (by omega)
theorem signNL_of (x : List UInt8) (n : Nat) : ∀ m, n ≤ m → n ≠ 0 → x.take n ∈ signsL → (∀ k, n < k → k ≤ m → x.take k ∉ signsL) → signNL x m = n
  | 0, h, h0, _, _ => by omega
  | m + 1, h, h0, h1, h2 => by
    unfold signNL
    by_cases e : n = m + 1
    · subst e; rw [if_pos h1]
    · rw [if_neg (h2 (m + 1) (by omega) (Nat.le_refl _))]
      exact signNL_of x n m (by omega) h0 h1 (fun k h3 h4 => h2 k h3 (by omega))
theorem sign_cont (x w : List UInt8) (k n b : Nat) (d : List UInt8) (h : signL x = .tok k n b d) (hw : Cont x n w) : signL (x.take n ++ w) = .tok k n b d := by
  unfold signL at h
  split at h
  · cases h
  rename_i h0
  have hn : n = signNL x (min 3 x.length) := by cases h; rfl
  have hle := signNL_le x (min 3 x.length)
  have hin := signNL_in x (min 3 x.length) h0
  have hmax := signNL_max x (min 3 x.length)
  have hk : PR.tok 7 n 0 [] = .tok k n b d := by have h9 := h; cases h9; rfl
  rw [← hn] at h0 hle hin hmax
  have hnl : n ≤ x.length := by omega
  have key : signNL (x.take n ++ w) (min 3 (x.take n ++ w).length) = n := by
    refine signNL_of _ n _ (by rw [List.length_append, List.length_take]; omega) h0 (by rw [take_cont x w n hnl]; exact hin) (fun j hj1 hj2 hj3 => ?_)
    rw [List.length_append, List.length_take] at hj2
    obtain ⟨y, c, hc, hwc⟩ := hw
    have hcs : ∀ s ∈ signsL, c ∉ s := fun s hs => by rcases hc with rfl | rfl; exact (signs_blank s hs).1; exact (signs_blank s hs).2.1
    rcases hwc with rfl | rfl
    · refine hcs _ hj3 ?_
      rw [List.take_append]
      refine List.mem_append_right _ ?_
      rw [List.length_take]
      obtain ⟨i, hi⟩ : ∃ i, j - min n x.length = i + 1 := ⟨j - min n x.length - 1, by omega⟩
      rw [hi]
      simp
    · by_cases hjl : j ≤ x.length
      · have : (x.take n ++ (x.drop n ++ c :: y)).take j = x.take j := by
          rw [← List.append_assoc, List.take_append_drop, List.take_append_of_le_length hjl]
        rw [this] at hj3
        exact hmax j hj1 (by omega) hj3
      · refine hcs _ hj3 ?_
        rw [← List.append_assoc, List.take_append_drop, List.take_append]
        refine List.mem_append_right _ ?_
        obtain ⟨i, hi⟩ : ∃ i, j - x.length = i + 1 := ⟨j - x.length - 1, by omega⟩
        rw [hi]
        simp
  unfold signL
  rw [key, if_neg h0]
  exact hk
theorem quoL_pre (q : Int) : ∀ (u v : List UInt8) (e : Bool), quoL q e u < u.length → v.take (quoL q e u + 1) = u.take (quoL q e u + 1) → quoL q e v = quoL q e u
  | [], v, e, h, _ => by simp at h
  | a :: u, v, e, h, hv => by
    cases v with
    | nil => simp at hv
    | cons b v =>
      simp only [List.take_succ_cons, List.cons.injEq] at hv
      obtain ⟨rfl, hv⟩ := hv
      simp only [quoL] at h hv ⊢
      split
      · rfl
      · rename_i hc
        rw [if_neg hc] at h hv
        simp only [List.length_cons] at h
        rw [quoL_pre q u v _ (by omega) (by rw [Nat.add_comm 1] at hv; exact hv)]
theorem quot_pre (q : UInt8) (x z : List UInt8) (n : Nat) (hx : 1 ≤ x.length) (h : quotL q x = some n) (hz : z.take n = x.take n) : quotL q z = some n := by
  have hle := quotL_le q x hx n h
  unfold quotL at h ⊢
  simp only at h ⊢
  split at h
  · cases h
  rename_i hc
  simp only [Option.some.injEq] at h
  have hin : quoL (q.toNat : Int) false (x.drop 1) < (x.drop 1).length := by
    have := quoL_le (q.toNat : Int) (x.drop 1) false
    rw [List.length_drop] at this ⊢
    have : ¬ (1 + quoL (q.toNat : Int) false (x.drop 1) = x.length) := fun e => hc (Or.inl e)
    omega
  have hzl : n ≤ z.length := by
    have := congrArg List.length hz
    rw [List.length_take, List.length_take] at this
    omega
  have hd : (z.drop 1).take (quoL (q.toNat : Int) false (x.drop 1) + 1) = (x.drop 1).take (quoL (q.toNat : Int) false (x.drop 1) + 1) := by
    have := congrArg (List.drop 1) hz
    rw [List.drop_take, List.drop_take] at this
    rw [show quoL (q.toNat : Int) false (x.drop 1) + 1 = n - 1 by omega]
    exact this
  rw [quoL_pre _ (x.drop 1) (z.drop 1) false hin hd]
  have hg : z.getD (1 + quoL (q.toNat : Int) false (x.drop 1)) 0 = x.getD (1 + quoL (q.toNat : Int) false (x.drop 1)) 0 := by
    have e : ∀ (l : List UInt8) i, i < n → l.getD i 0 = (l.take n).getD i 0 := fun l i hi => by
      rw [List.getD_eq_getElem?_getD, List.getD_eq_getElem?_getD, List.getElem?_take_of_lt hi]
    rw [e z _ (by omega), e x _ (by omega), hz]
  rw [if_neg (fun e => hc ?_), h]
  rcases e with e | e
  · omega
  · exact Or.inr (by rw [← hg]; exact e)
theorem sub_pre (x z : List UInt8) (n : Nat) (hz : z.take n = x.take n) : (z.drop 1).take (n - 1 - 1) = (x.drop 1).take (n - 1 - 1) := by
  have := congrArg (fun l => (l.drop 1).take (n - 1 - 1)) hz
  simp only [List.drop_take, List.take_take] at this
  rw [show min (n - 1 - 1) (n - 1) = n - 1 - 1 by omega] at this
  exact this
theorem char_cont (x w : List UInt8) (k n b : Nat) (d : List UInt8) (hx : 1 ≤ x.length) (h : charL x = .tok k n b d) : charL (x.take n ++ w) = .tok k n b d := by
  unfold charL at h
  split at h
  · cases h
  rename_i n' hq
  split at h
  · cases h
  rename_i r ho
  have hn : n' = n := by cases h; rfl
  subst hn
  have hle := (quotL_le 39 x hx _ hq).2
  have hz := take_cont x w n' hle
  unfold charL
  rw [quot_pre 39 x _ n' hx hq hz]
  simp only [sub_pre x _ n' hz, ho]
  exact h
theorem text_cont (x w : List UInt8) (k n b : Nat) (d : List UInt8) (hx : 1 ≤ x.length) (h : textL x = .tok k n b d) : textL (x.take n ++ w) = .tok k n b d := by
  unfold textL at h
  split at h
  · cases h
  rename_i n' hq
  split at h
  · cases h
  rename_i r ho
  have hn : n' = n := by cases h; rfl
  subst hn
  have hle := (quotL_le 34 x hx _ hq).2
  have hz := take_cont x w n' hle
  unfold textL
  rw [quot_pre 34 x _ n' hx hq hz]
  simp only [sub_pre x _ n' hz, ho]
  exact h
/-- How long a token is. -/
theorem piece_len (x : List UInt8) (k n b : Nat) (d : List UInt8) (h : pieceL x = .tok k n b d) : 1 ≤ n ∧ n ≤ x.length ∧ x ≠ [] := by
  cases x with
  | nil => simp [pieceL] at h
  | cons c r =>
    refine ⟨?_, ?_, by simp⟩
    all_goals simp only [pieceL] at h
    · split at h
      · rename_i hc
        unfold nameL at h
        have hs : 1 ≤ spanL nameZ (c :: r) := by simp only [spanL]; rw [if_pos (by simp [nameZ, hc])]; omega
        split at h
        · cases h
        · split at h <;> cases h <;> exact hs
      · split at h
        · rename_i _ hc
          have hs : 1 ≤ spanL numZ (c :: r) := by simp only [spanL]; rw [if_pos (by simp [numZ, nameZ, hc])]; omega
          unfold numL at h
          split at h
          · cases h; exact hs
          · split at h
            · cases h; exact hs
            · cases h
        · split at h
          · unfold charL at h
            split at h
            · cases h
            · rename_i n' hq
              split at h
              · cases h
              · cases h; have := (quotL_le 39 (c :: r) (by simp) _ hq).1; omega
          · split at h
            · unfold textL at h
              split at h
              · cases h
              · rename_i n' hq
                split at h
                · cases h
                · cases h; have := (quotL_le 34 (c :: r) (by simp) _ hq).1; omega
            · unfold signL at h
              split at h
              · cases h
              · cases h; omega
    · split at h
      · unfold nameL at h
        split at h
        · cases h
        · split at h <;> cases h <;> exact spanL_le _ _
      · split at h
        · unfold numL at h
          split at h
          · cases h; exact spanL_le _ _
          · split at h
            · cases h; exact spanL_le _ _
            · cases h
        · split at h
          · unfold charL at h
            split at h
            · cases h
            · rename_i n' hq
              split at h
              · cases h
              · cases h; exact (quotL_le 39 (c :: r) (by simp) _ hq).2
          · split at h
            · unfold textL at h
              split at h
              · cases h
              · rename_i n' hq
                split at h
                · cases h
                · cases h; exact (quotL_le 34 (c :: r) (by simp) _ hq).2
            · unfold signL at h
              split at h
              · cases h
              · cases h
                have := signNL_le (c :: r) (min 3 (c :: r).length)
                omega
theorem piece_cont (x w : List UInt8) (k n b : Nat) (d : List UInt8) (h : pieceL x = .tok k n b d) (hw : Cont x n w) : pieceL (x.take n ++ w) = .tok k n b d := by
  obtain ⟨h1, h2, h3⟩ := piece_len x k n b d h
  cases x with
  | nil => exact absurd rfl h3
  | cons c r =>
    obtain ⟨m, rfl⟩ : ∃ m, n = m + 1 := ⟨n - 1, by omega⟩
    have hx : 1 ≤ (c :: r).length := by simp
    simp only [List.take_succ_cons, List.cons_append, pieceL] at h ⊢
    rw [show c :: (r.take m ++ w) = (c :: r).take (m + 1) ++ w from rfl]
    by_cases c1 : letterZ (c.toNat : Int) = true
    · rw [if_pos c1] at h ⊢; exact name_cont _ _ _ _ _ _ h hw
    · rw [if_neg c1] at h ⊢
      by_cases c2 : digitZ (c.toNat : Int) = true
      · rw [if_pos c2] at h ⊢; exact num_cont _ _ _ _ _ _ h hw
      · rw [if_neg c2] at h ⊢
        by_cases c3 : c.toNat = 39
        · rw [if_pos c3] at h ⊢; exact char_cont _ _ _ _ _ _ hx h
        · rw [if_neg c3] at h ⊢
          by_cases c4 : c.toNat = 34
          · rw [if_pos c4] at h ⊢; exact text_cont _ _ _ _ _ _ hx h
          · rw [if_neg c4] at h ⊢; exact sign_cont _ _ _ _ _ _ h hw
end Go.Proofs.YtcmfmfgedhfaeaaGreatDoor
