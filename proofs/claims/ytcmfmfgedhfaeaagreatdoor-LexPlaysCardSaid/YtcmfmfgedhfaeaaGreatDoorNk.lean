/- The tokens cover the text; written with blanks between they are the same. -/
import Derived.Test.YtcmfmfgedhfaeaaGreatDoorNc
namespace Go.Proofs.YtcmfmfgedhfaeaaGreatDoor
set_option linter.unusedSimpArgs false
set_option linter.unusedVariables false
open Go.RowKit

/-- m bytes end with a byte below 128. -/
def Al (x : List UInt8) (m : Nat) : Prop := m = 0 ∨ (m ≤ x.length ∧ (x.getD (m - 1) 0).toNat < 128)
theorem decL_al (x : List UInt8) (m : Nat) (hx : x ≠ []) (h : Al x m) (hm : m ≠ 0) : (Lib.decodeL x).2 ≤ m ∧ Al (x.drop (Lib.decodeL x).2) (m - (Lib.decodeL x).2) := by
  obtain ⟨h1, h2⟩ := h.resolve_left hm
  have hw := decL_w x hx
  have key : (Lib.decodeL x).2 ≤ m := by
    have hs : 0 < (⟨x.toArray⟩ : ByteArray).size := by rw [mk_size]; exact List.length_pos_iff.2 hx
    have e : Lib.decodeL x = Utf8.decode ⟨x.toArray⟩ 0 := rfl
    by_cases hb : ((⟨x.toArray⟩ : ByteArray).data.toList.getD 0 0).toNat < 128
    · rw [e, dec_lo _ _ hb]; show 1 ≤ m; omega
    · have h4 := (dec_hi ⟨x.toArray⟩ 0 hs hb).2.2.2
      rcases Nat.lt_or_ge m (Lib.decodeL x).2 with h5 | h5
      · have := h4 (m - 1) (Nat.zero_le _) (by rw [← e]; omega)
        rw [mk_list] at this
        omega
      · exact h5
  refine ⟨key, ?_⟩
  by_cases hm0 : m - (Lib.decodeL x).2 = 0
  · exact Or.inl hm0
  · refine Or.inr ⟨by rw [List.length_drop]; omega, ?_⟩
    rw [Lib.getD_dropU, show (Lib.decodeL x).2 + (m - (Lib.decodeL x).2 - 1) = m - 1 by omega]
    exact h2
theorem signs_low : ∀ s ∈ signsL, ∀ c ∈ s, c.toNat < 128 := by decide
theorem mem_at (x : List UInt8) (n : Nat) (h0 : n ≠ 0) (h : n ≤ x.length) : x.getD (n - 1) 0 ∈ x.take n := by
  rw [List.getD_eq_getElem?_getD, List.getElem?_eq_getElem (by omega)]
  rw [List.mem_take_iff_getElem]
  exact ⟨n - 1, by omega, rfl⟩
theorem low_of (p : Int → Bool) (hp : ∀ r : Int, 128 ≤ r → p r = false) (c : UInt8) (h : p (c.toNat : Int) = true) : c.toNat < 128 := by
  rcases Nat.lt_or_ge c.toNat 128 with h1 | h1
  · exact h1
  · rw [hp _ (by omega)] at h; cases h
theorem quot_last (q : UInt8) (x : List UInt8) (n : Nat) (h : quotL q x = some n) : x.getD (n - 1) 0 = q := by
  unfold quotL at h
  simp only at h
  split at h
  · cases h
  · rename_i hc
    simp only [Option.some.injEq] at h
    rw [← h, show 1 + quoL (q.toNat : Int) false (x.drop 1) + 1 - 1 = 1 + quoL (q.toNat : Int) false (x.drop 1) by omega]
    exact Classical.not_not.1 (fun e => hc (Or.inr e))
theorem piece_al (x : List UInt8) (k n b : Nat) (d : List UInt8) (h : pieceL x = .tok k n b d) : Al x n := by
  obtain ⟨h1, h2, h3⟩ := piece_len x k n b d h
  refine Or.inr ⟨h2, ?_⟩
  have hm := mem_at x n (by omega) h2
  cases x with
  | nil => exact absurd rfl h3
  | cons c r =>
    simp only [pieceL] at h
    split at h
    · unfold nameL at h
      have hn : n = spanL nameZ (c :: r) := by
        split at h
        · cases h
        · split at h <;> cases h <;> rfl
      subst hn
      exact low_of nameZ nameZ_hi _ ((span_spec nameZ (c :: r)).1 _ hm)
    · split at h
      · unfold numL at h
        have hn : n = spanL numZ (c :: r) := by
          split at h
          · cases h; rfl
          · split at h
            · cases h; rfl
            · cases h
        subst hn
        exact low_of numZ numZ_hi _ ((span_spec numZ (c :: r)).1 _ hm)
      · split at h
        · unfold charL at h
          split at h
          · cases h
          · rename_i n' hq
            split at h
            · cases h
            · cases h; rw [quot_last 39 _ _ hq]; decide
        · split at h
          · unfold textL at h
            split at h
            · cases h
            · rename_i n' hq
              split at h
              · cases h
              · cases h; rw [quot_last 34 _ _ hq]; decide
          · unfold signL at h
            split at h
            · cases h
            · rename_i h0
              have hin := signNL_in (c :: r) (min 3 (c :: r).length) h0
              have hn : n = signNL (c :: r) (min 3 (c :: r).length) := by cases h; rfl
              rw [← hn] at hin
              exact signs_low _ hin _ hm
def isB (c : UInt8) : Bool := blankZ (c.toNat : Int)
/-- Behind the blanks. -/
def skipB : List UInt8 → List UInt8
  | [] => []
  | c :: r => if isB c = true then skipB r else c :: r
/-- The tokens stand in the text, with blanks alone between. -/
def Cov : List UInt8 → List Tk → Prop
  | x, [] => x = []
  | x, t :: ts => (skipB x).take t.text.size = t.text.data.toList ∧ (t.k = 8 ↔ ts = []) ∧ (t.text.data.toList = [] ↔ t.k = 8) ∧ Cov ((skipB x).drop t.text.size) ts
def Lt (l0 c0 l c : Int) : Prop := l0 < l ∨ (l0 = l ∧ c0 < c)
/-- The places rise. -/
def Rise : Int → Int → List Tk → Prop
  | _, _, [] => True
  | l0, c0, t :: ts => Lt l0 c0 t.l t.c ∧ Rise t.l t.c ts
theorem behZ_lt (l c r : Int) : Lt l c (behZ l c r).1 (behZ l c r).2 := by
  by_cases h : r = 10
  · have e : behZ l c r = (l + 1, 1) := by unfold behZ; rw [if_pos h]
    rw [e]
    exact Or.inl (by show l < l + 1; omega)
  · have e : behZ l c r = (l, c + 1) := by unfold behZ; rw [if_neg h]
    rw [e]
    exact Or.inr ⟨rfl, by show c < c + 1; omega⟩
theorem Lt.trans {a b c d e f : Int} (h : Lt a b c d) (k : Lt c d e f) : Lt a b e f := by unfold Lt at *; omega
theorem pcs_rise : ∀ (n : Nat) (x : List UInt8), x.length ≤ n → ∀ sk l c ts l0 c0, Lt l0 c0 l c → pcs x sk l c = .ok ts → Rise l0 c0 ts
  | n, [], h, sk, l, c, ts, l0, c0, hlt, hp => by
    rw [pcs_nil] at hp
    cases hp
    exact ⟨hlt, trivial⟩
  | 0, a :: x, h, _, _, _, _, _, _, _, _ => by simp at h
  | n + 1, a :: x0, h, sk, l, c, ts, l0, c0, hlt, hp => by
    obtain ⟨x, hx9⟩ : ∃ x, x = a :: x0 := ⟨_, rfl⟩
    rw [← hx9] at h hp
    have hx : x ≠ [] := by rw [hx9]; simp
    clear hx9
    have hw := decL_w x hx
    have hd : (x.drop (Lib.decodeL x).2).length = x.length - (Lib.decodeL x).2 := List.length_drop
    have hb := behZ_lt l c (Lib.decodeL x).1
    rw [pcs_cons x hx] at hp
    split at hp
    · cases hpc : pieceL x with
      | err e => rw [hpc] at hp; simp [stepL] at hp
      | tok k n' b d =>
        rw [hpc] at hp
        simp only [stepL] at hp
        cases hr : pcs (x.drop (Lib.decodeL x).2) ((x.take n').length - (Lib.decodeL x).2) (behZ l c (Lib.decodeL x).1).1 (behZ l c (Lib.decodeL x).1).2 with
        | err _ _ _ => rw [hr] at hp; simp [TR.app] at hp
        | ok ts1 =>
          rw [hr] at hp
          simp only [TR.app, TR.ok.injEq] at hp
          subst hp
          exact ⟨hlt, pcs_rise n _ (by omega) _ _ _ ts1 l c hb hr⟩
    · exact pcs_rise n _ (by omega) _ _ _ ts l0 c0 (hlt.trans hb) hp
theorem first_rune (x : List UInt8) (hx : x ≠ []) : (blankZ (Lib.decodeL x).1 = true → ∃ c r, x = c :: r ∧ isB c = true ∧ (Lib.decodeL x).2 = 1) ∧ (blankZ (Lib.decodeL x).1 = false → skipB x = x) := by
  cases x with
  | nil => exact absurd rfl hx
  | cons c r =>
    by_cases hb : c.toNat < 128
    · rw [decL_lo c r hb]
      refine ⟨fun h => ⟨c, r, rfl, h, rfl⟩, fun h => ?_⟩
      have e : isB c = false := h
      simp [skipB, e]
    · have hs : 0 < (⟨(c :: r).toArray⟩ : ByteArray).size := by rw [mk_size]; simp
      have hd := (dec_hi ⟨(c :: r).toArray⟩ 0 hs hb).1
      have e : Lib.decodeL (c :: r) = Utf8.decode ⟨(c :: r).toArray⟩ 0 := rfl
      rw [← e] at hd
      refine ⟨fun h => ?_, fun _ => ?_⟩
      · rw [blankZ_hi _ (by omega)] at h; cases h
      · have e : isB c = false := blankZ_hi _ (by omega)
        simp [skipB, e]
theorem piece_kind (x : List UInt8) (k n b : Nat) (d : List UInt8) (h : pieceL x = .tok k n b d) : k ≠ 8 := by
  cases x with
  | nil => simp [pieceL] at h
  | cons c r =>
    simp only [pieceL] at h
    split at h
    · unfold nameL at h
      split at h
      · cases h
      · split at h <;> cases h <;> decide
    · split at h
      · unfold numL at h
        split at h
        · cases h; decide
        · split at h
          · cases h; decide
          · cases h
      · split at h
        · unfold charL at h
          split at h
          · cases h
          · split at h
            · cases h
            · cases h; decide
        · split at h
          · unfold textL at h
            split at h
            · cases h
            · split at h
              · cases h
              · cases h; decide
          · unfold signL at h
            split at h
            · cases h
            · cases h; decide
theorem pcs_ne (x : List UInt8) (sk : Nat) (l c : Int) (ts : List Tk) (hb : brk x l c = none) (hsk : sk ≤ x.length) (h : pcs x sk l c = .ok ts) : ts ≠ [] := by
  obtain ⟨ts0, le, ce, h1, _⟩ := pcs_ahead [] x.length x (Nat.le_refl _) sk l c ts hsk hb h
  rw [h1]
  simp
theorem pcs_cov : ∀ (n : Nat) (x : List UInt8), x.length ≤ n → ∀ sk l c ts, Al x sk → brk x l c = none → pcs x sk l c = .ok ts → Cov (x.drop sk) ts
  | n, [], h, sk, l, c, ts, ha, hb, hp => by
    rw [pcs_nil] at hp
    cases hp
    simp only [List.drop_nil]
    exact ⟨rfl, by simp [endT], by simp [endT], rfl⟩
  | 0, a :: x, h, _, _, _, _, _, _, _ => by simp at h
  | n + 1, a :: x0, h, sk, l, c, ts, ha, hb, hp => by
    obtain ⟨x, hx9⟩ : ∃ x, x = a :: x0 := ⟨_, rfl⟩
    rw [← hx9] at h hp ha hb ⊢
    have hx : x ≠ [] := by rw [hx9]; simp
    clear hx9
    have hw := decL_w x hx
    have hd : (x.drop (Lib.decodeL x).2).length = x.length - (Lib.decodeL x).2 := List.length_drop
    rw [brk_cons x hx] at hb
    split at hb
    · cases hb
    rename_i hv
    rw [pcs_cons x hx] at hp
    split at hp
    · rename_i hc
      obtain ⟨rfl, hc2⟩ := hc
      have hsk := (first_rune x hx).2 hc2
      cases hpc : pieceL x with
      | err e => rw [hpc] at hp; simp [stepL] at hp
      | tok k n' b d =>
        obtain ⟨hn1, hn2, _⟩ := piece_len x k n' b d hpc
        have hal := piece_al x k n' b d hpc
        obtain ⟨hle, hal2⟩ := decL_al x n' hx hal (by omega)
        rw [hpc] at hp
        simp only [stepL] at hp
        have hlen : (x.take n').length = n' := by rw [List.length_take]; omega
        rw [hlen] at hp
        cases hr : pcs (x.drop (Lib.decodeL x).2) (n' - (Lib.decodeL x).2) (behZ l c (Lib.decodeL x).1).1 (behZ l c (Lib.decodeL x).1).2 with
        | err _ _ _ => rw [hr] at hp; simp [TR.app] at hp
        | ok ts1 =>
          rw [hr] at hp
          simp only [TR.app, TR.ok.injEq] at hp
          subst hp
          have ih := pcs_cov n _ (by omega) _ _ _ ts1 hal2 hb hr
          have hne := pcs_ne _ _ _ _ ts1 hb (by rw [hd]; omega) hr
          rw [List.drop_drop, show (Lib.decodeL x).2 + (n' - (Lib.decodeL x).2) = n' by omega] at ih
          have hts : (tkL x l c k n' b d).text.size = n' := by unfold tkL; rw [mk_size, hlen]
          have htd : (tkL x l c k n' b d).text.data.toList = x.take n' := rfl
          rw [List.drop_zero]
          refine ⟨?_, ?_, ?_, ?_⟩
          · rw [hsk, hts, htd]
          · have := piece_kind x k n' b d hpc
            constructor
            · intro e
              simp only [tkL] at e
              omega
            · intro e
              exact absurd e hne
          · rw [htd]
            have := piece_kind x k n' b d hpc
            simp only [tkL]
            constructor
            · intro e
              have e2 := congrArg List.length e
              rw [hlen] at e2
              simp only [List.length_nil] at e2
              omega
            · intro e; omega
          · rw [hsk, hts]; exact ih
    · rename_i hc
      by_cases h0 : sk = 0
      · subst h0
        have hbl : blankZ (Lib.decodeL x).1 = true := by
          cases hb9 : blankZ (Lib.decodeL x).1 with
          | true => rfl
          | false => exact absurd ⟨rfl, hb9⟩ hc
        obtain ⟨c', r', rfl, hc1, hc2⟩ := (first_rune x hx).1 hbl
        have ih := pcs_cov n _ (by omega) _ _ _ ts (Or.inl (Nat.zero_sub _)) hb hp
        rw [Nat.zero_sub, List.drop_zero, hc2] at ih
        simp only [List.drop_succ_cons, List.drop_zero] at ih
        rw [List.drop_zero]
        have hsk : skipB (c' :: r') = skipB r' := by simp only [skipB]; rw [if_pos hc1]
        cases ts with
        | nil =>
          have := pcs_ne _ _ _ _ [] hb (by omega) hp
          exact absurd rfl this
        | cons t ts =>
          unfold Cov at ih ⊢
          rw [hsk]
          exact ih
      · obtain ⟨hle, hal2⟩ := decL_al x sk hx ha h0
        have ih := pcs_cov n _ (by omega) _ _ _ ts hal2 hb hp
        rw [List.drop_drop, show (Lib.decodeL x).2 + (sk - (Lib.decodeL x).2) = sk by omega] at ih
        exact ih
/-- Tokens with a blank behind each. -/
def spc : List Tk → List UInt8
  | [] => []
  | t :: ts => t.text.data.toList ++ 32 :: spc ts
def Tk.bare (t : Tk) : Tk := { t with l := 0, c := 0 }
/-- Through a token's bytes. -/
theorem skip_tok (y : List UInt8) : ∀ (n m : Nat) (x : List UInt8), m ≤ n → Al x m → ∀ l0 c0, brk x l0 c0 = none → ∀ l c, ∃ l' c', pcs (x.take m ++ 32 :: y) m l c = pcs y 0 l' c' ∧ brk (x.take m ++ 32 :: y) l c = brk y l' c'
  | n, 0, x, hmn, ha, l0, c0, hb, l, c => by
    have hd := decL_lo 32 y (by decide)
    have hn : (32 : UInt8) :: y ≠ [] := by simp
    refine ⟨(behZ l c (((32 : UInt8).toNat : Nat) : Int)).1, (behZ l c (((32 : UInt8).toNat : Nat) : Int)).2, ?_, ?_⟩
    · rw [List.take_zero, List.nil_append, pcs_cons _ hn, hd, if_neg (by simp only [not_and]; intro _; decide)]
      rfl
    · rw [List.take_zero, List.nil_append, brk_cons _ hn, hd, if_neg (by decide)]
      rfl
  | 0, m + 1, x, hmn, _, _, _, _, _, _ => by omega
  | n + 1, m + 1, x, hmn, ha, l0, c0, hb, l, c => by
    have hml : m + 1 ≤ x.length := (ha.resolve_left (by omega)).1
    have hx : x ≠ [] := by intro e; rw [e] at hml; simp at hml
    have hw := decL_w x hx
    obtain ⟨hle, hal2⟩ := decL_al x (m + 1) hx ha (by omega)
    rw [brk_cons x hx] at hb
    split at hb
    · cases hb
    rename_i hv
    have hz : x.take (m + 1) ++ 32 :: y ≠ [] := by simp
    have hlt : (x.take (m + 1)).length = m + 1 := by rw [List.length_take]; omega
    have hde : Lib.decodeL (x.take (m + 1) ++ 32 :: y) = Lib.decodeL x := by
      refine decL_pre x _ hv (by rw [List.length_append, hlt]; omega) (fun i hi => ?_)
      rw [List.getD_eq_getElem?_getD, List.getD_eq_getElem?_getD, List.getElem?_append_left (by rw [hlt]; omega), List.getElem?_take_of_lt (by omega)]
    have hdr : (x.take (m + 1) ++ 32 :: y).drop (Lib.decodeL x).2 = (x.drop (Lib.decodeL x).2).take (m + 1 - (Lib.decodeL x).2) ++ 32 :: y := by
      rw [List.drop_append_of_le_length (by rw [hlt]; omega), List.drop_take]
    obtain ⟨l', c', h1, h2⟩ := skip_tok y n (m + 1 - (Lib.decodeL x).2) (x.drop (Lib.decodeL x).2) (by omega) hal2 _ _ hb (behZ l c (Lib.decodeL x).1).1 (behZ l c (Lib.decodeL x).1).2
    refine ⟨l', c', ?_, ?_⟩
    · rw [pcs_cons _ hz, hde, hdr, if_neg (by simp)]
      exact h1
    · rw [brk_cons _ hz, hde, hdr, if_neg hv]
      exact h2
theorem pcs_again : ∀ (n : Nat) (x : List UInt8), x.length ≤ n → ∀ sk l c ts, Al x sk → brk x l c = none → pcs x sk l c = .ok ts → ∀ l' c', ∃ ts', pcs (spc ts) 0 l' c' = .ok ts' ∧ ts'.map Tk.bare = ts.map Tk.bare ∧ brk (spc ts) l' c' = none
  | n, [], h, sk, l, c, ts, ha, hb, hp, l', c' => by
    rw [pcs_nil] at hp
    cases hp
    obtain ⟨l1, c1, h1, h2⟩ := skip_tok [] 0 0 [] (Nat.le_refl _) (Or.inl rfl) 1 1 rfl l' c'
    exact ⟨[endT l1 c1], h1, rfl, h2⟩
  | 0, a :: x, h, _, _, _, _, _, _, _, _, _ => by simp at h
  | n + 1, a :: x0, h, sk, l, c, ts, ha, hb, hp, l', c' => by
    obtain ⟨x, hx9⟩ : ∃ x, x = a :: x0 := ⟨_, rfl⟩
    rw [← hx9] at h hp ha hb
    have hx : x ≠ [] := by rw [hx9]; simp
    clear hx9
    have hw := decL_w x hx
    have hd : (x.drop (Lib.decodeL x).2).length = x.length - (Lib.decodeL x).2 := List.length_drop
    have hb0 := hb
    rw [brk_cons x hx] at hb
    split at hb
    · cases hb
    rename_i hv
    rw [pcs_cons x hx] at hp
    split at hp
    · rename_i hc
      obtain ⟨rfl, hc2⟩ := hc
      cases hpc : pieceL x with
      | err e => rw [hpc] at hp; simp [stepL] at hp
      | tok k n' b d =>
        obtain ⟨hn1, hn2, _⟩ := piece_len x k n' b d hpc
        have hal := piece_al x k n' b d hpc
        obtain ⟨hle, hal2⟩ := decL_al x n' hx hal (by omega)
        rw [hpc] at hp
        simp only [stepL] at hp
        have hlen : (x.take n').length = n' := by rw [List.length_take]; omega
        rw [hlen] at hp
        cases hr : pcs (x.drop (Lib.decodeL x).2) (n' - (Lib.decodeL x).2) (behZ l c (Lib.decodeL x).1).1 (behZ l c (Lib.decodeL x).1).2 with
        | err _ _ _ => rw [hr] at hp; simp [TR.app] at hp
        | ok ts1 =>
          rw [hr] at hp
          simp only [TR.app, TR.ok.injEq] at hp
          subst hp
          have hz : x.take n' ++ 32 :: spc ts1 ≠ [] := by simp
          have hde : Lib.decodeL (x.take n' ++ 32 :: spc ts1) = Lib.decodeL x := by
            refine decL_pre x _ hv (by rw [List.length_append, hlen]; omega) (fun i hi => ?_)
            rw [List.getD_eq_getElem?_getD, List.getD_eq_getElem?_getD, List.getElem?_append_left (by rw [hlen]; omega), List.getElem?_take_of_lt (by omega)]
          have hdr : (x.take n' ++ 32 :: spc ts1).drop (Lib.decodeL x).2 = (x.drop (Lib.decodeL x).2).take (n' - (Lib.decodeL x).2) ++ 32 :: spc ts1 := by
            rw [List.drop_append_of_le_length (by rw [hlen]; omega), List.drop_take]
          have hpa := piece_cont x (32 :: spc ts1) k n' b d hpc ⟨spc ts1, 32, Or.inr rfl, Or.inl rfl⟩
          have htk := take_cont x (32 :: spc ts1) n' hn2
          obtain ⟨l1, c1, h1, h2⟩ := skip_tok (spc ts1) n' (n' - (Lib.decodeL x).2) (x.drop (Lib.decodeL x).2) (by omega) hal2 _ _ hb (behZ l' c' (Lib.decodeL x).1).1 (behZ l' c' (Lib.decodeL x).1).2
          obtain ⟨ts', i1, i2, i3⟩ := pcs_again n _ (by omega) _ _ _ ts1 hal2 hb hr l1 c1
          refine ⟨tkL x l' c' k n' b d :: ts', ?_, ?_, ?_⟩
          · show pcs (x.take n' ++ 32 :: spc ts1) 0 l' c' = _
            rw [pcs_cons _ hz, hde, hdr, if_pos ⟨rfl, hc2⟩, hpa]
            simp only [stepL]
            rw [htk, hlen, h1, i1]
            have hk : tkL (x.take n' ++ 32 :: spc ts1) l' c' k n' b d = tkL x l' c' k n' b d := by unfold tkL; rw [htk]
            rw [hk]
            rfl
          · simp only [List.cons_append, List.nil_append, List.map_cons, i2]
            rfl
          · show brk (x.take n' ++ 32 :: spc ts1) l' c' = none
            rw [brk_cons _ hz, hde, hdr, if_neg hv, h2, i3]
    · rename_i hc
      by_cases h0 : sk = 0
      · subst h0
        exact pcs_again n _ (by omega) _ _ _ ts (Or.inl (Nat.zero_sub _)) hb hp l' c'
      · obtain ⟨hle, hal2⟩ := decL_al x sk hx ha h0
        exact pcs_again n _ (by omega) _ _ _ ts hal2 hb hp l' c'
/-- What LexCovers asks, plainly. -/
theorem tok_covers (s : ByteArray) (ts : List Tk) (h : tokensF s = .ok ts) (hs : s.size ≤ 1048576) : Cov s.data.toList ts ∧ Rise 0 0 ts ∧ ∀ z : ByteArray, z.data.toList = spc ts → z.size ≤ 1048576 → ∃ ts', tokensF z = .ok ts' ∧ ts'.map Tk.bare = ts.map Tk.bare := by
  rw [tokensF_L s hs] at h
  cases hb : brk s.data.toList 1 1 with
  | some p => rw [hb] at h; cases h
  | none =>
    rw [hb] at h
    refine ⟨?_, pcs_rise _ _ (Nat.le_refl _) 0 1 1 ts 0 0 (Or.inl (by decide)) h, fun z hz hzs => ?_⟩
    · have := pcs_cov _ _ (Nat.le_refl _) 0 1 1 ts (Or.inl rfl) hb h
      rw [List.drop_zero] at this
      exact this
    · obtain ⟨ts', i1, i2, i3⟩ := pcs_again _ _ (Nat.le_refl _) 0 1 1 ts (Or.inl rfl) hb h 1 1
      refine ⟨ts', ?_, i2⟩
      rw [tokensF_L z hzs, hz, i3]
      exact i1
end Go.Proofs.YtcmfmfgedhfaeaaGreatDoor
