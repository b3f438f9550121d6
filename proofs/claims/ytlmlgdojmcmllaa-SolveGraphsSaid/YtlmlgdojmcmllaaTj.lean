/- The order's way: its last node; what the loop does to it. -/
import Derived.Test.YtlmlgdojmcmllaaTi
namespace Go.Proofs.Ytlmlgdojmcmllaa
set_option linter.unusedSimpArgs false
set_option linter.unusedVariables false
open Go.RowKit
open Solve

theorem flatS_one (k : Nat) (rv : Value) (r : List Int) : flatS [(k, rv, r)] = [.int .i64 (k : Int), rv] := by simp [flatS]
section
variable {w0 : World} {p2 p6 p7 B n : Nat} {nv : Value} {w w' : World} {V : Nat → Prop} {l : List Nat} {ov : Value} {st st0 : List Stp} {u : Value} {ord : List Nat}
theorem EO.void (h : EO w0 p2 p6 p7 B n nv w V l ov [] u ord) : ∃ q c, ov = .slice q 0 c := by
  rcases h.own.2 with ⟨r, _⟩ | ⟨g, cap, cur, r, _⟩
  · exact ⟨_, _, r⟩
  · exact ⟨_, _, r⟩
theorem EO.top {k : Nat} {rv : Value} {r : List Int} (h : EO w0 p2 p6 p7 B n nv w V l ov (st0 ++ [(k, rv, r)]) u ord) : ∃ S cap, ov = .slice (some ⟨S, 0, none⟩) (st0.length + 1) cap ∧ st0.length + 1 ≤ cap ∧ cap ≤ 9223372036854775807 ∧
    w.cell? ⟨S, st0.length * 2, none⟩ = some (.int .i64 (k : Int)) ∧ w.cell? ⟨S, st0.length * 2 + 1, none⟩ = some rv ∧ w.frozen? ⟨S, st0.length * 2 + 1, none⟩ = false ∧
    (∀ rv' r', Ints T w0 rv' r' → EO w0 p2 p6 p7 B n nv (w.setCell ⟨S, st0.length * 2 + 1, none⟩ rv') V l ov (st0 ++ [(k, rv', r')]) u ord) ∧
    EO w0 p2 p6 p7 B n nv (w.setCell ⟨p6, 0, none⟩ (.slice (some ⟨S, 0, none⟩) st0.length cap)) V l (.slice (some ⟨S, 0, none⟩) st0.length cap) st0 u ord := by
  have hlen : (st0 ++ [(k, rv, r)]).length = st0.length + 1 := by simp
  have hf : flatS (st0 ++ [(k, rv, r)]) = flatS st0 ++ [.int .i64 (k : Int), rv] := by rw [flatS_app, flatS_one]
  have hfl := flatS_len st0
  have hown := h.own
  rw [hlen, hf] at hown
  rcases hown.2 with ⟨_, hz⟩ | ⟨S, cap, cur, hv, hb, hg, hn, hm, hs, ht⟩
  · omega
  · have hcur : ∀ j, j < (st0.length + 1) * 2 → cur[j]? = (flatS st0 ++ [.int .i64 (k : Int), rv])[j]? := fun j hj => by
      rw [← ht, List.getElem?_take_of_lt hj, Array.getElem?_toList]
    have c0 : cur[st0.length * 2]? = some (.int .i64 (k : Int)) := by
      rw [hcur _ (by omega), List.getElem?_append_right (by omega), hfl]; simp
    have c1 : cur[st0.length * 2 + 1]? = some rv := by
      rw [hcur _ (by omega), List.getElem?_append_right (by omega), hfl]; simp
    have hSb := h.d2 S (by rw [hv]; rfl)
    refine ⟨S, cap, hv, hn, by simpa [maxLen] using hm, by rw [cell_of_row w S _ _ 48 (0, 0) hg]; exact c0, by rw [cell_of_row w S _ _ 48 (0, 0) hg]; exact c1, frozen_of hg _, fun rv' r' hr' => ?_, ?_⟩
    · have K : Keep (fun k => ov.ownBlock = some k) w (w.setCell ⟨S, st0.length * 2 + 1, none⟩ rv') := (Keep.refl _ w).setCell (p := ⟨S, st0.length * 2 + 1, none⟩) (by rw [hv]; rfl) _
      have hb2 : ∀ j, j ≠ S → (w.setCell ⟨S, st0.length * 2 + 1, none⟩ rv').heap[j]? = w.heap[j]? := fun j hj => Below.heap_setCell _ _ _ _ hj
      have hown' : (w.setCell ⟨S, st0.length * 2 + 1, none⟩ rv').ownsRow w0.heap.size 48 2 ov (st0 ++ [(k, rv', r')]).length (flatS (st0 ++ [(k, rv', r')])) := by
        refine ⟨by rw [flatS_len], Or.inr ⟨S, cap, cur.setIfInBounds (st0.length * 2 + 1) rv', by simpa using hv, hb, heap_set hg _ _, by simpa using hn, hm, by simpa using hs, ?_⟩⟩
        rw [flatS_app, flatS_one]
        refine List.ext_getElem? fun j => ?_
        have hl2 : (st0 ++ [(k, rv', r')]).length * 2 = st0.length * 2 + 2 := by simp; omega
        rw [hl2]
        by_cases hj : j < st0.length * 2 + 2
        · rw [List.getElem?_take_of_lt hj, Array.getElem?_toList, Array.getElem?_setIfInBounds]
          by_cases e : st0.length * 2 + 1 = j
          · subst e
            rw [if_pos rfl, if_pos (by omega), List.getElem?_append_right (by omega), hfl]; simp
          · rw [if_neg e, hcur j (by omega)]
            rcases Nat.lt_or_ge j (st0.length * 2) with hjl | hjl
            · rw [List.getElem?_append_left (by omega), List.getElem?_append_left (by omega)]
            · have : j = st0.length * 2 := by omega
              subst this
              rw [List.getElem?_append_right (by omega), List.getElem?_append_right (by omega), hfl]; simp
        · rw [List.getElem?_take_eq_none (by omega), List.getElem?_eq_none (by simp [hfl]; omega)]
      exact ⟨h.vst.keep K fun k hv' e => (h.d1 k hv').2.2.2.1 e, hown', K.que h.ord fun k e e' => (h.d2 k e').2.2.2.2 e, fun s hs => by
          rcases List.mem_append.1 hs with e | e
          · exact h.rest s (by simp [e])
          · have : s = (k, rv', r') := by simpa using e
            rw [this]; exact hr',
        (hb2 _ (fun e => hSb.2.1 e.symm)).trans h.h2, (hb2 _ (fun e => hSb.2.2.1 e.symm)).trans h.h6, (hb2 _ (fun e => hSb.2.2.2.1 e.symm)).trans h.h7, K.fresh h.fr fun k e => (h.d2 k e).1, h.base, h.d1, h.d2, h.d3, h.d4⟩
    · refine EO.open' h (D := fun _ => False) (Keep.refl _ w) (fun _ => False.elim) ⟨by rw [flatS_len], Or.inr ⟨S, cap, cur, rfl, hb, hg, by omega, hm, hs, ?_⟩⟩ (fun x hx => Or.inl (by rw [hv]; exact hx)) fun s hs => h.rest s (by simp [hs])
      have := congrArg (List.take (st0.length * 2)) ht
      have e1 : List.take (st0.length * 2) (List.take ((st0.length + 1) * 2) cur.toList) = List.take (st0.length * 2) cur.toList := by
        rw [List.take_take]; congr 1; omega
      have e2 : List.take (st0.length * 2) (flatS st0 ++ [.int .i64 (k : Int), rv]) = flatS st0 := by
        rw [← hfl]; exact List.take_left
      rw [e1, e2] at this
      exact this
theorem EO.put (h : EO w0 p2 p6 p7 B n nv w V l ov st u ord) {wa w2 : World} {u2 : Value} {k : Nat} (ha : Fresh w wa) (hq : Que w2 w0.heap.size 3 u2 (nums (ints ord) ++ [.int .i64 (k : Int)])) (hg : wa.grownBy w2 u.ownBlock) (h2 : u2.ownBlock = u.ownBlock ∨ u2.ownBlock = some wa.heap.size) :
    EO w0 p2 p6 p7 B n nv w2 V l ov st u2 (ord ++ [k]) := by
  have hz := ha.size
  have K : Keep (fun k => u.ownBlock = some k) w w2 := (Keep.of ha).grown hg fun k hk => hk
  have z2 := heap_lt h.h2
  have z6 := heap_lt h.h6
  have z7 := heap_lt h.h7
  have zf := h.fr.size
  have hd : ∀ k, u2.ownBlock = some k → u.ownBlock = some k ∨ w.heap.size ≤ k := fun k hk => by
    rcases h2 with e | e
    · exact Or.inl (e ▸ hk)
    · rw [e] at hk; injection hk with hk; exact Or.inr (by omega)
  refine ⟨h.vst.keep K fun k hv e => (h.d1 k hv).2.2.2.2 e, own_kept h.own fun k hk => K.block k (own_lt h.own k hk) fun e => (h.d2 k hk).2.2.2.2 e, by rw [ints_app, nums_app]; exact hq, h.rest, (K.block _ z2 fun e => (h.d3 _ e).2.1 rfl).trans h.h2, (K.block _ z6 fun e => (h.d3 _ e).2.2.1 rfl).trans h.h6, (K.block _ z7 fun e => (h.d3 _ e).2.2.2 rfl).trans h.h7, K.fresh h.fr fun k e => (h.d3 k e).1, h.base, fun k hv => ⟨(h.d1 k hv).1, (h.d1 k hv).2.1, (h.d1 k hv).2.2.1, (h.d1 k hv).2.2.2.1, fun e => ?_⟩, fun k hk => ⟨(h.d2 k hk).1, (h.d2 k hk).2.1, (h.d2 k hk).2.2.1, (h.d2 k hk).2.2.2.1, fun e => ?_⟩, fun k hk => ?_, h.d4⟩
  · rcases hd k e with r | r
    · exact (h.d1 k hv).2.2.2.2 r
    · have := h.vst.lt k hv; omega
  · rcases hd k e with r | r
    · exact (h.d2 k hk).2.2.2.2 r
    · have := own_lt h.own k hk; omega
  · rcases hd k hk with r | r
    · exact h.d3 k r
    · exact ⟨by omega, by omega, by omega, by omega⟩
end
/-- Where the loop is. -/
structure OI (g : Graph) (entry : Int) (l : List Nat) (st : List Stp) (ord : List Nat) : Prop where
  len : st.length + ord.length = l.length
  yes : 0 ≤ entry ∧ entry < (g.length : Int) → ∀ s2 l2, Rn g (plain st).reverse l ord s2 l2 → Visits g [entry.toNat] [] [] s2 l2
  no : ¬ (0 ≤ entry ∧ entry < (g.length : Int)) → st = [] ∧ ord = []
theorem plain_app (a b : List Stp) : plain (a ++ b) = plain a ++ plain b := by simp [plain]
def mea2 (n : Nat) (l : List Nat) (st : List Stp) : Nat := wt (plain st) + 21 * (n - l.length)
theorem wt_app (a b : List (Nat × List Int)) : wt (a ++ b) = wt a + wt b := by simp [wt]
theorem OI.pop {g : Graph} {entry : Int} {l : List Nat} {st0 : List Stp} {ord : List Nat} {k : Nat} {rv : Value} (h : OI g entry l (st0 ++ [(k, rv, [])]) ord) : OI g entry l st0 (ord ++ [k]) ∧ mea2 g.length l st0 < mea2 g.length l (st0 ++ [(k, rv, [])]) := by
  refine ⟨⟨?_, fun hn s2 l2 hr => h.yes hn s2 l2 ?_, fun hn => ?_⟩, ?_⟩
  · have := h.len; simp at this ⊢; omega
  · rw [plain_app, List.reverse_append]; exact hr.pop
  · have := (h.no hn).1; simp at this
  · simp only [mea2, plain_app, wt_app]
    simp [plain, wt]
theorem OI.next {g : Graph} {entry : Int} {l : List Nat} {st0 : List Stp} {ord : List Nat} {k : Nat} {rv rv' : Value} {x : Int} {r : List Int} (h : OI g entry l (st0 ++ [(k, rv, x :: r)]) ord) (hg : Sm g) (hl : l.length ≤ g.length) {st' : List Stp} (hlt : isNew g.length l x = true → l.length < g.length)
    (h0 : isNew g.length l x = false → st' = st0 ++ [(k, rv', r)]) (h1 : isNew g.length l x = true → ∃ rv2, st' = st0 ++ [(k, rv', r)] ++ [(x.toNat, rv2, row g x.toNat)]) :
    OI g entry (comeL g.length l x) st' ord ∧ mea2 g.length (comeL g.length l x) st' < mea2 g.length l (st0 ++ [(k, rv, x :: r)]) := by
  have hlen := h.len
  cases hx : isNew g.length l x with
  | false =>
    have e : comeL g.length l x = l := by simp [comeL, hx]
    rw [e, h0 hx]
    refine ⟨⟨by simpa using hlen, fun hn s2 l2 hr => h.yes hn s2 l2 ?_, fun hn => ?_⟩, ?_⟩
    · rw [plain_app, List.reverse_append] at hr ⊢
      exact Rn.skip hr hx
    · have := (h.no hn).1; simp at this
    · simp only [mea2, plain_app, wt_app]
      simp [plain, wt]
  | true =>
    have e : comeL g.length l x = l ++ [x.toNat] := by simp [comeL, hx]
    obtain ⟨rv2, e2⟩ := h1 hx
    rw [e, e2]
    refine ⟨⟨by simp at hlen ⊢; omega, fun hn s2 l2 hr => h.yes hn s2 l2 ?_, fun hn => ?_⟩, ?_⟩
    · rw [plain_app, List.reverse_append]
      rw [plain_app, plain_app, List.reverse_append, List.reverse_append] at hr
      exact Rn.push hr hx
    · have := (h.no hn).1; simp at this
    · have := hlt hx
      have := hg.row x.toNat
      simp only [mea2, plain_app, wt_app, List.length_append, List.length_singleton]
      simp [plain, wt]
      omega
theorem OI.start {g : Graph} {entry : Int} {st : List Stp} (h0 : isNew g.length [] entry = false → st = []) (h1 : isNew g.length [] entry = true → ∃ rv, st = [] ++ [(entry.toNat, rv, row g entry.toNat)]) : OI g entry (comeL g.length [] entry) st [] := by
  cases hx : isNew g.length [] entry with
  | false =>
    have e : comeL g.length [] entry = [] := by simp [comeL, hx]
    rw [e, h0 hx]
    refine ⟨rfl, fun hn => ?_, fun _ => ⟨rfl, rfl⟩⟩
    simp only [isNew, decide_eq_false_iff_not] at hx
    exact absurd ⟨hn.1, hn.2, by simp⟩ hx
  | true =>
    have e : comeL g.length [] entry = [entry.toNat] := by simp [comeL, hx]
    obtain ⟨rv, e2⟩ := h1 hx
    rw [e, e2]
    refine ⟨by simp, fun hn s2 l2 hr => ?_, fun hn => ?_⟩
    · cases hr with
      | cons a b =>
        cases b with
        | nil => exact .go (by simp) (show Visits g (fol g entry.toNat) ([] ++ [entry.toNat]) [] _ _ from a) .nil
    · simp only [isNew, decide_eq_true_eq] at hx
      exact absurd ⟨hx.1, hx.2.1⟩ hn
theorem OI.done {g : Graph} {entry : Int} {l : List Nat} {ord : List Nat} (h : OI g entry l [] ord) : OrderB g entry ord.reverse := by
  by_cases hn : 0 ≤ entry ∧ entry < (g.length : Int)
  · exact Or.inr ⟨hn, l, ord, h.yes hn _ _ .nil, rfl⟩
  · exact Or.inl ⟨hn, by rw [(h.no hn).2]; rfl⟩
end Go.Proofs.Ytlmlgdojmcmllaa
