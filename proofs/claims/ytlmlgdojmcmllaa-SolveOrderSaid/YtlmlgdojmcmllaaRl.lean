/- The sets against the arrows: plainly, beside the reference's rounds. -/
import Derived.Test.YtlmlgdojmcmllaaRk
namespace Go.Proofs.Ytlmlgdojmcmllaa
set_option linter.unusedSimpArgs false
set_option linter.unusedVariables false
open Go.RowKit
open Solve

theorem put_nil {ls : Graph} {i : Nat} (h : i < ls.length) (ex : List Int) : put ls i [] ex = ls := by
  refine row_ext (put_len _ _ _ _) fun j _ => ?_
  rw [row_put h]
  by_cases e : j = i
  · subst e; rw [if_pos rfl]; rfl
  · rw [if_neg e]
theorem passL_snoc (ex r xs : List Int) (x : Int) : passL ex r (xs ++ [x]) = if x ∈ ex then passL ex r xs else addL (passL ex r xs) x := by simp [passL, List.foldl_append]
theorem put_yes {ls : Graph} {i : Nat} (h : i < ls.length) {xs ex : List Int} {x : Int} (hx : x ∈ ex) : put ls i (xs ++ [x]) ex = put ls i xs ex := by
  unfold put; rw [passL_snoc, if_pos hx]
theorem put_no {ls : Graph} {i : Nat} (h : i < ls.length) {xs ex : List Int} {x : Int} (hx : x ∉ ex) : put ls i (xs ++ [x]) ex = (put ls i xs ex).set i (addL (row (put ls i xs ex) i) x) := by
  rw [row_put h, if_pos rfl]
  unfold put; rw [passL_snoc, if_neg hx]; simp
theorem row_put_len {ls : Graph} {i : Nat} (h : i < ls.length) (xs ex : List Int) (j : Nat) : (row (put ls i xs ex) j).length ≤ (row ls j).length + xs.length := by
  rw [row_put h]
  by_cases e : j = i
  · subst e; rw [if_pos rfl]; exact len_passL_le _ _ _
  · rw [if_neg e]; omega
theorem flat_len {u : Graph} (h : Sm u) : u.flatten.length ≤ 800 := by
  have h1 : (u.map List.length).sum ≤ (List.replicate u.length 20).sum := sum_le (by simp) fun i hi => by
    rw [lens_at]
    have hi' : i < u.length := by simpa using hi
    have : (List.replicate u.length 20).getD i 0 = 20 := by simp [List.getD, hi']
    rw [this]; exact h.row i
  rw [List.length_flatten]
  have h2 : (List.replicate u.length 20).sum = u.length * 20 := by simp
  have := h.len
  omega
structure BB (g u s : Graph) (ls0 ls : Graph) (m : Bool) (k : Nat) : Prop where
  good : Sound g.length (BackP g u s) ls
  le : tot ls0 ≤ tot ls
  lt : m = true → tot ls0 < tot ls
  eq : m = false → ls = ls0 ∧ ∀ i, k ≤ i → i < g.length → ClosedAt g u s ls i
theorem BB.start {g u s ls : Graph} (h : Sound g.length (BackP g u s) ls) : BB g u s ls ls false g.length :=
  ⟨h, Nat.le_refl _, (fun h => by cases h), fun _ => ⟨rfl, fun i h1 h2 => by omega⟩⟩
theorem BB.step {g u s ls0 ls : Graph} {m : Bool} {i : Nat} (h : BB g u s ls0 ls m (i + 1)) (hi : i < g.length) {m' : Bool} (hm : m' = (m || decide ((row ls i).length < (row (nodeB g u s ls i) i).length))) : BB g u s ls0 (nodeB g u s ls i) m' i := by
  obtain ⟨a, b, c, d, e⟩ := nodeB_good hi h.good
  have h1 := b.tot h.good.inc
  have h0 := h.le
  refine ⟨a, by omega, fun hmt => ?_, fun hmf => ?_⟩
  · rw [hmt] at hm
    cases m with
    | true => have := h.lt rfl; omega
    | false =>
      have hd : (row ls i).length < (row (nodeB g u s ls i) i).length := by simpa using hm.symm
      have := nodeB_tot hi h.good hd
      omega
  · rw [hmf] at hm
    cases m with
    | true => simp at hm
    | false =>
      have hd : ¬ (row ls i).length < (row (nodeB g u s ls i) i).length := by simpa using hm
      obtain ⟨e1, e2⟩ := nodeB_same hi h.good hd
      rw [e1]
      obtain ⟨q1, q2⟩ := h.eq rfl
      refine ⟨q1, fun j h1 h2 => ?_⟩
      by_cases e : j = i
      · subst e; exact e2
      · exact q2 j (by omega) h2
/-- The rounds' measure. -/
def mea (N : Nat) (ls : Graph) (m : Bool) : Nat := 2 * (N - tot ls) + m.toNat
theorem BB.mea {g u s ls0 ls : Graph} {m : Bool} {k : Nat} (h : BB g u s ls0 ls m k) : mea (g.length * u.flatten.length) ls m < mea (g.length * u.flatten.length) ls0 true := by
  have h1 := h.good.tot_le _ back_univ
  have h2 := h.le
  unfold Go.Proofs.Ytlmlgdojmcmllaa.mea
  cases m with
  | true =>
    have := h.lt rfl
    simp only [Bool.toNat_true]; omega
  | false => simp only [Bool.toNat_true, Bool.toNat_false]; omega
theorem BB.exact {g u s ls0 ls : Graph} (h : BB g u s ls0 ls false 0) : Exact g.length (BackP g u s) ls := ⟨h.good.len, h.good.inc, back_whole h.good fun i hi => (h.eq rfl).2 i (Nat.zero_le _) hi⟩
theorem exact_of_closed {g u s ls : Graph} (h : Sound g.length (BackP g u s) ls) (hc : ∀ i, i < g.length → ClosedAt g u s ls i) : Exact g.length (BackP g u s) ls := ⟨h.len, h.inc, back_whole h hc⟩
/-- The state within a node's round: so many followers gone through. -/
def nodeK (g u s ls : Graph) (i j : Nat) : Graph := ((fol g i).take j).foldl (fun ls k => put ls i (row ls k) (row s i)) (put ls i (row u i) [])
theorem nodeK_zero (g u s ls : Graph) (i : Nat) : nodeK g u s ls i 0 = put ls i (row u i) [] := by simp [nodeK]
theorem nodeK_succ {g u s ls : Graph} {i j : Nat} (h : j < (fol g i).length) : nodeK g u s ls i (j + 1) = put (nodeK g u s ls i j) i (row (nodeK g u s ls i j) (fol g i)[j]) (row s i) := fold_take _ _ _ _ h
theorem nodeK_all (g u s ls : Graph) (i : Nat) {j : Nat} (h : (fol g i).length ≤ j) : nodeK g u s ls i j = nodeB g u s ls i := by
  unfold nodeK nodeB; rw [List.take_of_length_le h]
theorem nodeK_good {g u s ls : Graph} {i : Nat} (hi : i < g.length) (h : Sound g.length (BackP g u s) ls) (j : Nat) : Sound g.length (BackP g u s) (nodeK g u s ls i j) := by
  have h1 : Sound g.length (BackP g u s) (put ls i (row u i) []) := h.put hi fun x hx _ => .use hi hx
  exact (foldB (g := g) (u := u) (s := s) ((fol g i).take j) (fun k hk => List.mem_of_mem_take hk) hi h1).1
/-- A cell of the rows, as a slice. -/
theorem mat_cell {w : World} {B : Nat} {t : TypeId} {vs : List Value} {ls : Graph} {i : Nat} (hM : Mat w B t vs ls) (hi : i < ls.length) : ∃ q c, w.cell? ⟨B, i, none⟩ = some (.slice q (row ls i).length c) ∧ Ints (· ≠ B) w (.slice q (row ls i).length c) (row ls i) ∧ (row ls i).length ≤ c ∧ c ≤ maxLen := by
  obtain ⟨y, hy, _, hr⟩ := hM.cell hi
  obtain ⟨q, c, rfl, ⟨h1, h2⟩, _⟩ := hr.form
  exact ⟨q, c, hy, hr, h1, h2⟩
theorem at_sl {ok ok' : Nat → Prop} (v : Value) (g : Graph) (i : Nat) (w : World) (h : Rows2 ok ok' w v g) :
    Calls Try.prog 39 #[v, .int .i64 i] w fun e w' => ∃ q c, e = .returned (.slice q (row g i).length c) ∧ Ints ok' w (.slice q (row g i).length c) (row g i) ∧ c ≤ maxLen ∧ w = w' :=
  (at_any v g i w h).mono fun e w' ⟨u, he, hu, hw⟩ => by
    obtain ⟨q, c, rfl, ⟨h1, h2⟩, _⟩ := hu.form
    exact ⟨q, c, he, hu, h2, hw⟩
theorem two_sts {w a b : World} (h : Fresh w a) (k : Fresh w b) : Sts (· < w.heap.size) a b := fun n o v hn hv =>
  (k.below.cell (p := ⟨n, o, none⟩) hn).trans ((h.below.cell (p := ⟨n, o, none⟩) hn).symm.trans hv)
theorem rows_low {ok ok' : Nat → Prop} {w : World} {v : Value} {g : Graph} (h : Rows2 ok ok' w v g) : Rows2 (· < w.heap.size) (· < w.heap.size) w v g := h.imp (fun _ hc _ => hc) (fun _ hc _ => hc)
/-- A number of a row, by its place. -/
theorem ints_cell {ok : Nat → Prop} {w : World} {q : Option Addr} {l : List Int} {n cap j : Nat} (h : Ints ok w (.slice q n cap) l) (hj : j < l.length) : ∃ B off, q = some ⟨B, off, none⟩ ∧ ok B ∧ w.cell? ⟨B, off + j, none⟩ = some (.int .i64 l[j]) := by
  obtain ⟨p, c, hv, _, hh⟩ := h.form
  cases hv
  obtain ⟨B, off, hp, hB, hc⟩ := hh j hj
  rw [getD_get hj] at hc
  exact ⟨B, off, hp, hB, hc⟩
theorem take_oneI {l : List Int} {j : Nat} (h : j < l.length) : l.take (j + 1) = l.take j ++ [l[j]] := List.take_succ_eq_append_getElem h
end Go.Proofs.Ytlmlgdojmcmllaa
