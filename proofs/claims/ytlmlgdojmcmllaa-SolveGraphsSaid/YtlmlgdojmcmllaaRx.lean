/- The fixed calls, out of what is asked of the program's own calls. -/
import Derived.Test.YtlmlgdojmcmllaaRw
namespace Go.Proofs.Ytlmlgdojmcmllaa
set_option linter.unusedSimpArgs false
set_option linter.unusedVariables false
open Go.RowKit
open Solve

theorem wd7 : WdL [7] := fun x hx => List.all_eq_true.1 (show ([7] : List Int).all (fun x => (Lit.int .i64 x).wf) = true by decide) x hx
def g3 : Graph := [[1], [2, 0], []]
def u5 : Graph := [[], [], [5]]
def s5 : Graph := [[], [5]]
def e7 : Graph := [[], [7]]
theorem g3_fol : fol g3 0 = [1] ∧ fol g3 1 = [2, 0] ∧ fol g3 2 = [] := by decide
theorem g3_from {i k : Nat} (h : k ∈ fol g3 i) : (i = 0 ∧ k = 1) ∨ (i = 1 ∧ (k = 2 ∨ k = 0)) := by
  have hi : i < 3 := fol_from h
  obtain ⟨h0, h1, h2⟩ := g3_fol
  rcases (by omega : i = 0 ∨ i = 1 ∨ i = 2) with rfl | rfl | rfl
  · rw [h0] at h; exact Or.inl ⟨rfl, by simpa using h⟩
  · rw [h1] at h; exact Or.inr ⟨rfl, by simpa using h⟩
  · rw [h2] at h; simp at h
theorem back5 {i : Nat} {x : Int} : BackP g3 u5 s5 i x ↔ i = 2 ∧ x = 5 := by
  constructor
  · intro h
    induction h with
    | @use i x hi hx =>
      have hi : i < 3 := hi
      rcases (by omega : i = 0 ∨ i = 1 ∨ i = 2) with rfl | rfl | rfl
      · simp [u5] at hx
      · simp [u5] at hx
      · exact ⟨rfl, by simpa [u5] using hx⟩
    | @pass i k x hk _ he ih =>
      obtain ⟨rfl, rfl⟩ := ih
      rcases g3_from hk with ⟨_, h⟩ | ⟨rfl, _⟩
      · omega
      · simp [s5] at he
  · rintro ⟨rfl, rfl⟩
    exact .use (by decide) (by decide)
theorem fwd7 {i : Nat} {x : Int} : FwdP g3 0 [7] [] e7 i x ↔ x = 7 ∧ (i = 0 ∨ i = 1) := by
  constructor
  · intro h
    induction h with
    | start hx => exact ⟨by simpa using hx, Or.inl rfl⟩
    | make _ _ hx => simp at hx
    | @pass i k x _ hk _ he ih =>
      obtain ⟨rfl, h | h⟩ := ih
      · subst h
        rcases g3_from hk with ⟨_, h⟩ | ⟨h, _⟩
        · exact ⟨rfl, Or.inr h⟩
        · omega
      · subst h; simp [e7] at he
  · rintro ⟨rfl, rfl | rfl⟩
    · exact .start (by decide)
    · exact .pass (Path.refl 0) (by decide) (.start (by decide)) (by decide)
theorem fwdQ7 {i : Nat} {x : Int} : FwdQ g3 0 [7] [] e7 i x ↔ x = 7 ∧ (i = 0 ∨ i = 1) := ⟨fun h => fwd7.1 h.2, fun h => ⟨by decide, fwd7.2 h⟩⟩
theorem exact_row {n : Nat} {P : Nat → Int → Prop} {ls : Graph} (h : Exact n P ls) (i : Nat) {l : List Int} (hl : Inc l) (hp : ∀ x, P i x ↔ x ∈ l) : row ls i = l := inc_eq (h.inc i) hl fun x => (h.iff i x).trans (hp x)
theorem back_rows {ls : Graph} (h : Exact g3.length (BackP g3 u5 s5) ls) : row ls 0 = [] ∧ row ls 2 = [5] :=
  ⟨exact_row h 0 inc_nil fun x => by rw [back5]; simp, exact_row h 2 (List.pairwise_singleton _ _) fun x => by rw [back5]; simp⟩
theorem fwd_rows {ls : Graph} (h : Exact g3.length (FwdQ g3 0 [7] [] e7) ls) : row ls 1 = [7] ∧ row ls 2 = [] :=
  ⟨exact_row h 1 (List.pairwise_singleton _ _) fun x => by rw [fwdQ7]; simp, exact_row h 2 inc_nil fun x => by rw [fwdQ7]; simp⟩
theorem bef_rows {ls : Graph} (h : Exact g3.length (BefP g3) ls) : row ls 1 = [0] := exact_row h 1 (List.pairwise_singleton _ _) fun x => by
  constructor
  · rintro ⟨i, rfl, hk⟩
    rcases g3_from hk with ⟨rfl, _⟩ | ⟨_, h | h⟩
    · simp
    · omega
    · omega
  · intro hx
    have : x = 0 := by simpa using hx
    exact ⟨0, this, by decide⟩
theorem ord3 {l : List Nat} (h : OrderB g3 0 l) : l = [0, 1, 2] := by
  have hv : Visits g3 [0] [] [] [0, 1, 2] [2, 1, 0] := by
    obtain ⟨h0, h1, h2⟩ := g3_fol
    refine .go (by simp) (s1 := [0, 1, 2]) (l1 := [2, 1]) ?_ .nil
    rw [h0]
    refine .go (by simp) (s1 := [0, 1, 2]) (l1 := [2]) ?_ .nil
    rw [h1]
    refine .go (by simp) (s1 := [0, 1, 2]) (l1 := []) ?_ (.skip (by simp) .nil)
    rw [h2]
    exact .nil
  rcases h with ⟨h1, _⟩ | ⟨_, s, l0, h2, rfl⟩
  · exact absurd (by decide) h1
  · have : l0 = [2, 1, 0] := (Visits.unique (by simpa using h2) hv).2
    rw [this]; rfl
theorem reach3 {b : List Bool} (h : ReachB g3 1 b) : flag b 0 = true ∧ b.length = 3 := ⟨(h.2 0).2 ⟨by decide, by decide, (Path.refl 1).step (by decide)⟩, h.1⟩
theorem sm3 : Sm g3 ∧ Sm u5 ∧ Sm s5 ∧ Sm e7 ∧ Sm [] := by
  have : ∀ (g : Graph), g.length ≤ 3 → (∀ l ∈ g, l.length ≤ 2) → Sm g := fun g h1 h2 => ⟨by omega, fun i => by
    by_cases h : i < g.length
    · have := h2 (row g i) (by simp only [row, List.getD, List.getElem?_eq_getElem h, Option.getD_some]; exact List.getElem_mem h)
      omega
    · rw [row_out (by omega)]; simp⟩
  exact ⟨this _ (by decide) (by decide), this _ (by decide) (by decide), this _ (by decide) (by decide), this _ (by decide) (by decide), this _ (by decide) (by decide)⟩
theorem ints_lit (w : World) (t : TypeId) (l : List Int) (H : Nat) (hH : w.heap.size = H) (hm : l.length ≤ maxLen) : Ints T (w.alloc (.cells (nums l).toArray t)) (.slice (some ⟨H, 0, none⟩) l.length l.length) l := by
  subst hH
  have := Que.made_full w t (nums l) 0 (Nat.zero_le _) (by rw [nums_len]; exact hm)
  rw [nums_len] at this
  exact this.ints
theorem rows_lit (w : World) (t : TypeId) (vs : List Value) (g : Graph) (hl : vs.length = g.length) (H : Nat) (hH : w.heap.size = H) (hm : vs.length ≤ maxLen) (h : ∀ i u, vs[i]? = some u → Ints T w u (row g i)) : Rows2 T T (w.alloc (.cells vs.toArray t)) (.slice (some ⟨H, 0, none⟩) vs.length vs.length) g := by
  subst hH
  exact ⟨vs, hl, (Que.made_full w t vs 0 (Nat.zero_le _) hm).row (fun _ _ => trivial), fun i u hu => (h i u hu).fresh ((Fresh.refl _).alloc _ _)⟩
abbrev w3 (w : World) (a b c : List Int) : World := ((w.alloc (.cells (nums a).toArray 3)).alloc (.cells (nums b).toArray 3)).alloc (.cells (nums c).toArray 3)
theorem lit3 (w : World) (a b c : List Int) (ha : a.length ≤ 9) (hb : b.length ≤ 9) (hc : c.length ≤ 9) (H : Nat) (hH : w.heap.size = H) : Rows2 T T ((w3 w a b c).alloc (.cells #[.slice (some ⟨H, 0, none⟩) a.length a.length, .slice (some ⟨H + 1, 0, none⟩) b.length b.length, .slice (some ⟨H + 1 + 1, 0, none⟩) c.length c.length] 28)) (.slice (some ⟨H + 1 + 1 + 1, 0, none⟩) 3 3) [a, b, c] := by
  have h := rows_lit (w3 w a b c) 28 [.slice (some ⟨H, 0, none⟩) a.length a.length, .slice (some ⟨H + 1, 0, none⟩) b.length b.length, .slice (some ⟨H + 1 + 1, 0, none⟩) c.length c.length] [a, b, c] rfl (H + 1 + 1 + 1) (by simp [hH]) (by simp [maxLen]) ?_
  · exact h
  · have x := ((ints_lit w 3 a H hH (by simp [maxLen]; omega)).fresh ((Fresh.refl _).alloc (nums b).toArray 3)).fresh ((Fresh.refl _).alloc (nums c).toArray 3)
    have y := (ints_lit (w.alloc (.cells (nums a).toArray 3)) 3 b (H + 1) (by simp [hH]) (by simp [maxLen]; omega)).fresh ((Fresh.refl _).alloc (nums c).toArray 3)
    have z := ints_lit ((w.alloc (.cells (nums a).toArray 3)).alloc (.cells (nums b).toArray 3)) 3 c (H + 1 + 1) (by simp [hH]) (by simp [maxLen]; omega)
    intro i u hu
    rcases i with _ | _ | _ | i
    · obtain rfl : _ = u := by simpa using hu
      exact x
    · obtain rfl : _ = u := by simpa using hu
      exact y
    · obtain rfl : _ = u := by simpa using hu
      exact z
    · simp at hu
theorem lit2 (w : World) (a b : List Int) (ha : a.length ≤ 9) (hb : b.length ≤ 9) (H : Nat) (hH : w.heap.size = H) : Rows2 T T (((w.alloc (.cells (nums a).toArray 3)).alloc (.cells (nums b).toArray 3)).alloc (.cells #[.slice (some ⟨H, 0, none⟩) a.length a.length, .slice (some ⟨H + 1, 0, none⟩) b.length b.length] 28)) (.slice (some ⟨H + 1 + 1, 0, none⟩) 2 2) [a, b] := by
  have h := rows_lit ((w.alloc (.cells (nums a).toArray 3)).alloc (.cells (nums b).toArray 3)) 28 [.slice (some ⟨H, 0, none⟩) a.length a.length, .slice (some ⟨H + 1, 0, none⟩) b.length b.length] [a, b] rfl (H + 1 + 1) (by simp [hH]) (by simp [maxLen]) ?_
  · exact h
  · have x := (ints_lit w 3 a H hH (by simp [maxLen]; omega)).fresh ((Fresh.refl _).alloc (nums b).toArray 3)
    have y := ints_lit (w.alloc (.cells (nums a).toArray 3)) 3 b (H + 1) (by simp [hH]) (by simp [maxLen]; omega)
    intro i u hu
    rcases i with _ | _ | i
    · obtain rfl : _ = u := by simpa using hu
      exact x
    · obtain rfl : _ = u := by simpa using hu
      exact y
    · simp at hu
set_option maxHeartbeats 64000000 in
set_option maxRecDepth 100000 in
theorem fixed_of (hR : ReachC 10) (hO : OrderC 13) (hBe : BeforeC 16) (hB : BackC 18) (hF : FwdC 20) : FixC := by
  intro w
  have HPR := Lib.hid hR
  have HPO := Lib.hid hO
  have HPE := Lib.hid hBe
  have HPB := Lib.hid hB
  have HPF := Lib.hid hF
  clear hR hO hBe hB hF
  go_enter Try.func8, Try.ntmps8
  go_wp2_with fail
  go_at_call 10; refine (HPR.out _ g3 1 _ sm3.1 (lit3 w [1] [2, 0] [] (by decide) (by decide) (by decide) _ rfl)).mono ?_; rintro e w1 ⟨q1, c1, b, rfl, hr, hb, h2⟩
  have HM := Lib.hid hr
  have HB := Lib.hid hb
  have HG : Hid (Rows2 T T w1 (.slice (some ⟨w.heap.size + 1 + 1 + 1, 0, none⟩) 3 3) g3) := Lib.hid ((lit3 w [1] [2, 0] [] (by decide) (by decide) (by decide) _ rfl).fresh h2)
  have E1 : Hid (Fresh w w1) := Lib.hid (Fresh.trans ((((Fresh.refl w).alloc _ _).alloc _ _ |>.alloc _ _).alloc _ _) h2)
  have hbl : (marks b).length = 3 := by rw [marks_len]; exact (reach3 hb).2
  rw [hbl] at HM
  rw [hbl]
  clear hr hb h2 hbl
  go_wp2_with fail
  have FA : Fresh w1 (((w3 w1 [] [] [5]).alloc (.cells #[.slice (some ⟨w1.heap.size, 0, none⟩) 0 0, .slice (some ⟨w1.heap.size + 1, 0, none⟩) 0 0, .slice (some ⟨w1.heap.size + 1 + 1, 0, none⟩) 1 1] 28))) := (((Fresh.refl _).alloc _ _).alloc _ _ |>.alloc _ _).alloc _ _
  have FB : ∀ (a : World) (x y z : Array Value) (t : TypeId) (t' : TypeId), Fresh a (((a.alloc (.cells x t)).alloc (.cells y t)).alloc (.cells z t')) := fun a x y z t t' => (((Fresh.refl a).alloc _ _).alloc _ _).alloc _ _
  have U5 := (lit3 w1 [] [] [5] (by decide) (by decide) (by decide) _ rfl).fresh (FB _ #[] #[.int .i64 5] #[.slice (some ⟨w1.heap.size + 1 + 1 + 1 + 1, 0, none⟩) 0 0, .slice (some ⟨w1.heap.size + 1 + 1 + 1 + 1 + 1, 0, none⟩) 1 1] 3 28)
  have S5 := lit2 ((w3 w1 [] [] [5]).alloc (.cells #[.slice (some ⟨w1.heap.size, 0, none⟩) 0 0, .slice (some ⟨w1.heap.size + 1, 0, none⟩) 0 0, .slice (some ⟨w1.heap.size + 1 + 1, 0, none⟩) 1 1] 28)) [] [5] (by decide) (by decide) (w1.heap.size + 1 + 1 + 1 + 1) (by simp)
  have FC := FA.trans (FB _ #[] #[.int .i64 5] #[.slice (some ⟨w1.heap.size + 1 + 1 + 1 + 1, 0, none⟩) 0 0, .slice (some ⟨w1.heap.size + 1 + 1 + 1 + 1 + 1, 0, none⟩) 1 1] 3 28)
  go_at_call 18; refine (HPB.out _ _ _ g3 u5 s5 _ sm3.1 sm3.2.1 sm3.2.2.1 (wd_of (by decide)) (wd_of (by decide)) (HG.out.fresh FC) U5 S5).mono ?_; rintro e w2 ⟨vi, li, rfl, ho, hb, h2⟩
  have HG2 := Lib.hid (HG.out.fresh (FC.trans h2))
  have HM2 := Lib.hid (HM.out.fresh (FC.trans h2))
  have E2 := Lib.hid (E1.out.trans (FC.trans h2))
  have HI := Lib.hid ho
  have HIX := Lib.hid hb
  clear FA FB U5 S5 FC h2 ho hb HG HM E1
  go_wp2_with fail
  have F1 : Fresh w2 (w2.alloc (.cells #[.int .i64 7] 3)) := (Fresh.refl _).alloc _ _
  have FB : ∀ (a : World) (x y z : Array Value) (t : TypeId) (t' : TypeId), Fresh a (((a.alloc (.cells x t)).alloc (.cells y t)).alloc (.cells z t')) := fun a x y z t t' => (((Fresh.refl a).alloc _ _).alloc _ _).alloc _ _
  have E7 := lit2 (w2.alloc (.cells #[.int .i64 7] 3)) [] [7] (by decide) (by decide) (w2.heap.size + 1) (by simp)
  have FC := F1.trans (FB (w2.alloc (.cells #[.int .i64 7] 3)) #[] #[.int .i64 7] #[.slice (some ⟨w2.heap.size + 1, 0, none⟩) 0 0, .slice (some ⟨w2.heap.size + 1 + 1, 0, none⟩) 1 1] 3 28)
  have ST := (ints_lit w2 3 [7] w2.heap.size rfl (by simp [maxLen])).fresh (FB (w2.alloc (.cells #[.int .i64 7] 3)) #[] #[.int .i64 7] #[.slice (some ⟨w2.heap.size + 1, 0, none⟩) 0 0, .slice (some ⟨w2.heap.size + 1 + 1, 0, none⟩) 1 1] 3 28)
  have NL : ∀ a : World, Rows2 T T a (.slice none 0 0) [] := fun a => ⟨[], rfl, Row.nil _ _, fun i u hu => by simp at hu⟩
  go_at_call 20; refine (HPF.out _ _ _ _ g3 0 [7] [] e7 _ sm3.1 (by decide) sm3.2.2.2.2 sm3.2.2.2.1 wd7 (wd_of (by decide)) (wd_of (by decide)) (HG2.out.fresh FC) ST (NL _) E7).mono ?_; rintro e w3 ⟨vo, lo, rfl, ho, hb, h2⟩
  have HG3 := Lib.hid (HG2.out.fresh (FC.trans h2))
  have HM3 := Lib.hid (HM2.out.fresh (FC.trans h2))
  have HI3 := Lib.hid (HI.out.fresh (FC.trans h2))
  have E3 := Lib.hid (E2.out.trans (FC.trans h2))
  have HO := Lib.hid ho
  have HOX := Lib.hid hb
  clear F1 FB E7 ST FC NL h2 ho hb HG2 HM2 HI E2
  go_wp2_with fail
  go_at_call 16; refine (HPE.out _ g3 _ sm3.1 HG3.out).mono ?_; rintro e w4 ⟨vb, lb, rfl, ho, hb, h2⟩
  have HG4 := Lib.hid (HG3.out.fresh h2)
  have HM4 := Lib.hid (HM3.out.fresh h2)
  have HI4 := Lib.hid (HI3.out.fresh h2)
  have HO4 := Lib.hid (HO.out.fresh h2)
  have E4 := Lib.hid (E3.out.trans h2)
  have HE4 := Lib.hid ho
  obtain ⟨ri0, ri2⟩ := back_rows HIX.out
  obtain ⟨ro1, ro2⟩ := fwd_rows HOX.out
  have re1 := bef_rows hb
  have li3 : li.length = 3 := HIX.out.len
  have lo3 : lo.length = 3 := HOX.out.len
  have lb3 : lb.length = 3 := hb.len
  obtain ⟨pi, ci, hvi, _, _⟩ := HI4.out.form
  obtain ⟨po, co, hvo, _, _⟩ := HO4.out.form
  obtain ⟨pb, cb, hvb, _, _⟩ := HE4.out.form
  rw [li3] at hvi
  rw [lo3] at hvo
  rw [lb3] at hvb
  subst hvi hvo hvb
  obtain ⟨Bi, offi, rfl⟩ := ptr_of HI4.out (by omega)
  obtain ⟨Bo, offo, rfl⟩ := ptr_of HO4.out (by omega)
  obtain ⟨Bb, offb, rfl⟩ := ptr_of HE4.out (by omega)
  have hr3 := reach3 HB.out
  obtain ⟨Bm, offm, rfl, hm0⟩ := marks_cell HM4.out (i := 0) (by omega)
  rw [hr3.1, Nat.add_zero] at hm0
  have HROWS : Hid ((row li 0 = [] ∧ row li 2 = [5]) ∧ (row lo 1 = [7] ∧ row lo 2 = []) ∧ row lb 1 = [0]) := Lib.hid ⟨⟨ri0, ri2⟩, ⟨ro1, ro2⟩, re1⟩
  have HLEN : Hid (li.length = 3 ∧ lo.length = 3 ∧ lb.length = 3) := Lib.hid ⟨li3, lo3, lb3⟩
  clear h2 ho hb HG3 HM3 HI3 HO E3 ri0 ri2 ro1 ro2 re1 li3 lo3 lb3 hr3
  go_wp2_with fail
  go_at_call 13; refine (HPO.out _ g3 0 _ sm3.1 HG4.out).mono ?_; rintro e w5 ⟨v5, l5, rfl, ho, hb, h2⟩
  have h5 := ord3 hb
  subst h5
  have HO5 := Lib.hid ho
  have HI5 := Lib.hid (HI4.out.fresh h2)
  have HF5 := Lib.hid (HO4.out.fresh h2)
  have HE5 := Lib.hid (HE4.out.fresh h2)
  have E5 := Lib.hid (E4.out.trans h2)
  clear ho hb h2 HI4 HO4 HE4 E4 HG4 HM4 hm0
  go_wp2_with fail
  have FL := (Fresh.refl w5).alloc #[.int .i64 0, .int .i64 1, .int .i64 2] 3
  go_at_call 12; refine (same_any _ _ [0, 1, 2] _ (HO5.out.fresh FL) (ints_lit w5 3 [0, 1, 2] w5.heap.size rfl (by simp [maxLen]))).mono ?_; rintro e w6 ⟨rfl, h2⟩
  have HI6 := Lib.hid (HI5.out.fresh (FL.trans h2))
  have HF6 := Lib.hid (HF5.out.fresh (FL.trans h2))
  have HE6 := Lib.hid (HE5.out.fresh (FL.trans h2))
  have E6 := Lib.hid (E5.out.trans (FL.trans h2))
  obtain ⟨qa, ca, hca, _, _, _⟩ := row_cell2 HI6.out (i := 0) (by have := HLEN.out; omega)
  obtain ⟨qc, cc, hcc, hrc, _, _⟩ := row_cell2 HI6.out (i := 2) (by have := HLEN.out; omega)
  rw [HROWS.out.1.1, Nat.add_zero] at hca
  rw [HROWS.out.1.2] at hcc hrc
  have HRC := Lib.hid hrc
  clear FL h2 HI5 HF5 HE5 E5 HO5 hrc
  go_wp2_with fail
  have FL := (Fresh.refl w6).alloc #[.int .i64 5] 3
  go_at_call 12; refine (same_any _ _ [5] _ (HRC.out.fresh FL) (ints_lit w6 3 [5] w6.heap.size rfl (by simp [maxLen]))).mono ?_; rintro e w7 ⟨rfl, h2⟩
  have HF7 := Lib.hid (HF6.out.fresh (FL.trans h2))
  have HE7 := Lib.hid (HE6.out.fresh (FL.trans h2))
  have E7 := Lib.hid (E6.out.trans (FL.trans h2))
  obtain ⟨qd, cd, hcd, hrd, _, _⟩ := row_cell2 HF7.out (i := 1) (by have := HLEN.out; omega)
  rw [HROWS.out.2.1.1] at hcd hrd
  have HRD := Lib.hid hrd
  clear FL h2 HI6 HF6 HE6 E6 HRC hrd hca hcc
  go_wp2_with fail
  have FL := (Fresh.refl w7).alloc #[.int .i64 7] 3
  go_at_call 12; refine (same_any _ _ [7] _ (HRD.out.fresh FL) (ints_lit w7 3 [7] w7.heap.size rfl (by simp [maxLen]))).mono ?_; rintro e w8 ⟨rfl, h2⟩
  have HF8 := Lib.hid (HF7.out.fresh (FL.trans h2))
  have HE8 := Lib.hid (HE7.out.fresh (FL.trans h2))
  have E8 := Lib.hid (E7.out.trans (FL.trans h2))
  obtain ⟨qe, ce, hce, hre, _, _⟩ := row_cell2 HF8.out (i := 2) (by have := HLEN.out; omega)
  rw [HROWS.out.2.1.2] at hce
  obtain ⟨qf, cf, hcf, hrf, _, _⟩ := row_cell2 HE8.out (i := 1) (by have := HLEN.out; omega)
  rw [HROWS.out.2.2] at hcf hrf
  have HRF := Lib.hid hrf
  clear FL h2 HF7 HE7 E7 HRD hrf hre hcd
  go_wp2_with fail
  have FL := (Fresh.refl w8).alloc #[.int .i64 0] 3
  go_at_call 12; refine (same_any _ _ [0] _ (HRF.out.fresh FL) (ints_lit w8 3 [0] w8.heap.size rfl (by simp [maxLen]))).mono ?_; rintro e w9 ⟨rfl, h2⟩
  have E9 := Lib.hid (E8.out.trans (FL.trans h2))
  clear FL h2
  go_wp2
  go_ret
  exact ⟨rfl, E9.out⟩
end Go.Proofs.Ytlmlgdojmcmllaa
