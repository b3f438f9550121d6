/- The sets of a side: what holds in the rounds. -/
import Derived.Test.YtlmlgdojmcmllaaUl
namespace Go.Proofs.Ytlmlgdojmcmllaa
set_option linter.unusedSimpArgs false
set_option linter.unusedVariables false
open Go.RowKit
open Solve

theorem AB.lt {A : Graph} {st : Bool} {entry : Int} {mk en : Int → Bool} {b : Bool} {i : Nat} (h : AB A st entry mk en b i) : i < A.length := by
  induction h with
  | start _ _ h => exact h
  | step _ h _ => exact fol_lt h
  | make _ h => exact h
  | pass _ _ ih => exact ih
theorem AB.why {A : Graph} {st : Bool} {entry : Int} {mk en : Int → Bool} {b : Bool} {i : Nat} (h : AB A st entry mk en b i) : st = true ∨ ∃ j : Nat, j < A.length ∧ mk (j : Int) = true := by
  induction h with
  | start h _ _ => exact Or.inl h
  | step _ _ ih => exact ih
  | make h hi => exact Or.inr ⟨_, hi, h⟩
  | pass _ _ ih => exact ih
/-- All that the sets' call has in hand. -/
structure SS (d : FD) (w0 : World) (U0 : Nat → Prop) (wr : World) (R V1 V2 : Nat → Prop) (l1 l2 : List Nat) (V : Nat → Prop) (b p5 : Nat) (ls : Graph) (u : Value) (ts : List Int) : Prop where
  f : Fst d w0 U0 wr R V1 V2 l1 l2
  bag : Bag wr V b ls
  h5 : wr.heap[p5]? = some (.cells #[.slice (some ⟨b, 0, none⟩) d.A.length d.A.length] 22 (0, 0))
  q : Que wr w0.heap.size 3 u (nums ts)
  x : ∀ k, (V k ∨ k = p5 ∨ u.ownBlock = some k) → ¬ R k ∧ ¬ V1 k ∧ ¬ V2 k ∧ w0.heap.size ≤ k
  v5 : ¬ V p5
  vu : ∀ k, u.ownBlock = some k → ¬ V k
section
variable {d : FD} {w0 : World} {U0 : Nat → Prop} {wr w' : World} {R V1 V2 : Nat → Prop} {l1 l2 : List Nat} {V : Nat → Prop} {b p5 : Nat} {ls : Graph} {u : Value} {ts : List Int}
theorem SS.fresh (h : SS d w0 U0 wr R V1 V2 l1 l2 V b p5 ls u ts) (hf : Fresh wr w') : SS d w0 U0 w' R V1 V2 l1 l2 V b p5 ls u ts :=
  ⟨h.f.fresh hf, h.bag.fresh hf, (hf.below.block _ (heap_lt h.h5)).trans h.h5, h.q.fresh hf, h.x, h.v5, h.vu⟩
theorem SS.start (h : SS d w0 U0 wr R V1 V2 l1 l2 V b p5 ls u ts) : Fst d wr (W V1 V2) wr R V1 V2 l1 l2 :=
  ⟨h.f.flo, h.f.v1, h.f.v2, h.f.d1, h.f.d2, h.f.d12, Keep.refl _ _, fun k hk => Or.inl (Or.inl hk), fun k hk => Or.inl (Or.inr hk)⟩
theorem SS.spread (h : SS d w0 U0 wr R V1 V2 l1 l2 V b p5 ls u ts) {x : Int} (hs : SpP d wr (W V1 V2) R x w') : ∃ V1' V2' l1' l2', SS d w0 U0 w' R V1' V2' l1' l2' V b p5 ls u ts ∧ Keep (W V1 V2) wr w' ∧
    (∀ i, i ∈ l1' ↔ AB d.A (d.S x) d.entry (d.M x) (d.E x) true i) ∧ ∀ i, i ∈ l2' ↔ AB d.A (d.S x) d.entry (d.M x) (d.E x) false i := by
  obtain ⟨V1', V2', l1', l2', hf, s1, s2⟩ := hs
  have hz := h.f.keep.size
  have hW : ∀ k, W V1 V2 k → U0 k ∨ w0.heap.size ≤ k := fun k hk => hk.elim (h.f.u1 k) (h.f.u2 k)
  have hd : ∀ k, (V k ∨ k = p5 ∨ u.ownBlock = some k) → ¬ W V1 V2 k := fun k hk e => e.elim (h.x k hk).2.1 (h.x k hk).2.2.1
  have hlt : ∀ k, (V k ∨ k = p5 ∨ u.ownBlock = some k) → k < wr.heap.size := fun k hk => by
    rcases hk with r | r | r
    · exact h.bag.lt k r
    · rw [r]; exact heap_lt h.h5
    · exact (h.q.lt k r).2
  refine ⟨V1', V2', l1', l2', ⟨⟨hf.flo, hf.v1, hf.v2, hf.d1, hf.d2, hf.d12, h.f.keep.step hf.keep hW, fun k hk => ?_, fun k hk => ?_⟩, h.bag.keep hf.keep fun k hk => hd k (Or.inl hk), (hf.keep.block _ (heap_lt h.h5) (hd _ (Or.inr (Or.inl rfl)))).trans h.h5, hf.keep.que h.q fun k hk => hd k (Or.inr (Or.inr hk)), fun k hk => ⟨(h.x k hk).1, fun e => ?_, fun e => ?_, (h.x k hk).2.2.2⟩, h.v5, h.vu⟩, hf.keep, s1, s2⟩
  · rcases hf.u1 k hk with r | r
    · exact hW k r
    · exact Or.inr (by omega)
  · rcases hf.u2 k hk with r | r
    · exact hW k r
    · exact Or.inr (by omega)
  · rcases hf.u1 k e with r | r
    · exact hd k hk r
    · have := hlt k hk; omega
  · rcases hf.u2 k e with r | r
    · exact hd k hk r
    · have := hlt k hk; omega
theorem SS.put (h : SS d w0 U0 wr R V1 V2 l1 l2 V b p5 ls u ts) {ls' : Graph} (hb : BP V b ls' wr w') : ∃ V', SS d w0 U0 w' R V1 V2 l1 l2 V' b p5 ls' u ts ∧ Keep V wr w' ∧ ∀ k, V' k → V k ∨ wr.heap.size ≤ k := by
  obtain ⟨V', h1, h2, h3⟩ := hb
  have hz := h.f.keep.size
  have hR : ∀ k, R k → ¬ V k := fun k hr hv => (h.x k (Or.inl hv)).1 hr
  have hnew : ∀ k, V' k → ¬ R k ∧ ¬ V1 k ∧ ¬ V2 k ∧ w0.heap.size ≤ k := fun k hk => by
    rcases h2 k hk with r | r
    · exact h.x k (Or.inl r)
    · exact ⟨fun e => by have := h.f.flo.lt k e; omega, fun e => by have := h.f.v1.lt k e; omega, fun e => by have := h.f.v2.lt k e; omega, by omega⟩
  refine ⟨V', ⟨⟨h.f.flo.keep h3 hR, h.f.v1.keep h3 fun k hv e => (h.x k (Or.inl e)).2.1 hv, h.f.v2.keep h3 fun k hv e => (h.x k (Or.inl e)).2.2.1 hv, h.f.d1, h.f.d2, h.f.d12, h.f.keep.step h3 fun k hk => Or.inr (h.x k (Or.inl hk)).2.2.2, h.f.u1, h.f.u2⟩, h1, (h3.block _ (heap_lt h.h5) h.v5).trans h.h5, h3.que h.q h.vu, fun k hk => ?_, fun e => ?_, fun k hk e => ?_⟩, h3, h2⟩
  · rcases hk with r | r
    · exact hnew k r
    · exact h.x k (Or.inr r)
  · rcases h2 _ e with r | r
    · exact h.v5 r
    · have := heap_lt h.h5; omega
  · rcases h2 _ e with r | r
    · exact h.vu k hk r
    · have := (h.q.lt k hk).2; omega
end
/-- What stands in the rows behind so many things. -/
structure RW (d : FD) (sd : Bool) (ts : List Int) (j : Nat) (ls : Graph) : Prop where
  len : ls.length = d.A.length
  sub : ∀ i, (row ls i).Sublist (ts.take j)
  iff : ∀ i y, y ∈ row ls i ↔ y ∈ ts.take j ∧ AB d.A (d.S y) d.entry (d.M y) (d.E y) sd i
theorem RW.start (d : FD) (sd : Bool) (ts : List Int) : RW d sd ts 0 (List.replicate d.A.length []) :=
  ⟨by simp, fun i => by rw [row_rep]; exact List.nil_sublist _, fun i y => by rw [row_rep]; simp⟩
theorem RW.next {d : FD} {sd : Bool} {ts : List Int} {j : Nat} {ls ls' : Graph} (h : RW d sd ts j ls) (hj : j < ts.length) (hn : ts.Nodup) (hl : ls'.length = ls.length) {l : List Nat} (hs : ∀ i, i ∈ l ↔ AB d.A (d.S ts[j]) d.entry (d.M ts[j]) (d.E ts[j]) sd i)
    (hr : ∀ i, row ls' i = if i ∈ l then row ls i ++ [ts[j]] else row ls i) : RW d sd ts (j + 1) ls' := by
  have ht : ts.take (j + 1) = ts.take j ++ [ts[j]] := List.take_succ_eq_append_getElem hj
  have hnew : ts[j] ∉ ts.take j := by
    have := hn.sublist (List.take_sublist (j + 1) ts)
    rw [ht] at this
    intro hm
    exact (List.nodup_append.1 this).2.2 _ hm _ (by simp) rfl
  refine ⟨hl.trans h.len, fun i => ?_, fun i y => ?_⟩
  · rw [hr, ht]
    by_cases hi : i ∈ l
    · rw [if_pos hi]; exact (h.sub i).append (List.Sublist.refl _)
    · rw [if_neg hi]; exact (h.sub i).trans (List.sublist_append_left _ _)
  · rw [hr, ht, List.mem_append, List.mem_singleton]
    by_cases hi : i ∈ l
    · rw [if_pos hi, List.mem_append, List.mem_singleton, h.iff]
      constructor
      · rintro (e | e)
        · exact ⟨Or.inl e.1, e.2⟩
        · exact ⟨Or.inr e, by rw [e]; exact (hs i).1 hi⟩
      · rintro ⟨e | e, e2⟩
        · exact Or.inl ⟨e, e2⟩
        · exact Or.inr e
    · rw [if_neg hi, h.iff]
      constructor
      · rintro ⟨e1, e2⟩; exact ⟨Or.inl e1, e2⟩
      · rintro ⟨e | e, e2⟩
        · exact ⟨e, e2⟩
        · exact absurd ((hs i).2 (by rw [← e]; exact e2)) hi
/-- What a side's sets are to be. -/
def SdP (d : FD) (sd : Bool) (i : Nat) (y : Int) : Prop := Key y ∧ AB d.A (d.S y) d.entry (d.M y) (d.E y) sd i
theorem RW.done {d : FD} {sd : Bool} {ts : List Int} {ls : Graph} (h : RW d sd ts ts.length ls) (hi : Inc ts) (hk : ∀ a ∈ ts, Key a) (hall : ∀ a, Key a → (d.S a = true ∨ ∃ j : Nat, j < d.A.length ∧ d.M a (j : Int) = true) → a ∈ ts) : Exact d.A.length (SdP d sd) ls :=
  ⟨h.len, fun i => hi.sublist (by have := h.sub i; rwa [List.take_length] at this), fun i y => by
    rw [h.iff, List.take_length]
    exact ⟨fun e => ⟨hk y e.1, e.2⟩, fun e => ⟨hall y e.1 e.2.why, e.2⟩⟩⟩
end Go.Proofs.Ytlmlgdojmcmllaa
