/- The order, plainly: a row of nodes on the way; their places in memory. -/
import Derived.Test.YtlmlgdojmcmllaaTg
namespace Go.Proofs.Ytlmlgdojmcmllaa
set_option linter.unusedSimpArgs false
set_option linter.unusedVariables false
open Go.RowKit
open Solve

/-- What becomes of a way, its last node first. -/
inductive Rn (g : Graph) : List (Nat × List Int) → List Nat → List Nat → List Nat → List Nat → Prop
  | nil {s l} : Rn g [] s l s l
  | cons {k r st s l s1 l1 s2 l2} : Visits g (nodesOf g.length r) s l s1 l1 → Rn g st s1 (l1 ++ [k]) s2 l2 → Rn g ((k, r) :: st) s l s2 l2
theorem nodesOf_cons (n : Nat) (x : Int) (r : List Int) : nodesOf n (x :: r) = if 0 ≤ x ∧ x < (n : Int) then x.toNat :: nodesOf n r else nodesOf n r := by
  unfold nodesOf
  rw [List.filterMap_cons]
  by_cases h : 0 ≤ x ∧ x < (n : Int)
  · simp [h]
  · simp [h]
section
variable {g : Graph} {k : Nat} {r : List Int} {st : List (Nat × List Int)} {s l s2 l2 : List Nat} {x : Int}
theorem Rn.pop (h : Rn g st s (l ++ [k]) s2 l2) : Rn g ((k, []) :: st) s l s2 l2 := .cons (by simp [nodesOf]; exact .nil) h
theorem Rn.skip (h : Rn g ((k, r) :: st) s l s2 l2) (hx : isNew g.length s x = false) : Rn g ((k, x :: r) :: st) s l s2 l2 := by
  cases h with
  | cons a b =>
    refine .cons ?_ b
    rw [nodesOf_cons]
    by_cases hn : 0 ≤ x ∧ x < (g.length : Int)
    · rw [if_pos hn]
      refine .skip ?_ a
      simp only [isNew, decide_eq_false_iff_not] at hx
      exact Classical.byContradiction fun h => hx ⟨hn.1, hn.2, h⟩
    · rw [if_neg hn]; exact a
theorem Rn.push (h : Rn g ((x.toNat, row g x.toNat) :: (k, r) :: st) (s ++ [x.toNat]) l s2 l2) (hx : isNew g.length s x = true) : Rn g ((k, x :: r) :: st) s l s2 l2 := by
  simp only [isNew, decide_eq_true_eq] at hx
  cases h with
  | cons a b =>
    cases b with
    | cons c d =>
      refine .cons ?_ d
      rw [nodesOf_cons, if_pos ⟨hx.1, hx.2.1⟩]
      exact .go hx.2.2 a c
end
/-- How far a way has to go. -/
def wt (st : List (Nat × List Int)) : Nat := (st.map fun s => s.2.length + 1).sum

/-- One node on the way, as memory has it: the slice of what is left of its followers. -/
abbrev Stp := Nat × Value × List Int
def flatS (st : List Stp) : List Value := st.flatMap fun s => [.int .i64 (s.1 : Int), s.2.1]
def plain (st : List Stp) : List (Nat × List Int) := st.map fun s => (s.1, s.2.2)
theorem flatS_len (st : List Stp) : (flatS st).length = st.length * 2 := by
  unfold flatS
  induction st with
  | nil => rfl
  | cons s st ih => simp only [List.flatMap_cons, List.length_append, List.length_cons, List.length_nil, ih]; omega
theorem flatS_app (a b : List Stp) : flatS (a ++ b) = flatS a ++ flatS b := by simp [flatS]
/-- The whole of what the order's call has in hand. -/
structure EO (w0 : World) (p2 p6 p7 B n : Nat) (nv : Value) (w : World) (V : Nat → Prop) (l : List Nat) (ov : Value) (st : List Stp) (u : Value) (ord : List Nat) : Prop where
  vst : Vst w V B n l
  own : w.ownsRow w0.heap.size 48 2 ov st.length (flatS st)
  ord : Que w w0.heap.size 3 u (nums (ints ord))
  rest : ∀ s ∈ st, Ints T w0 s.2.1 s.2.2
  h2 : w.heap[p2]? = some (.cells #[nv] 22 (0, 0))
  h6 : w.heap[p6]? = some (.cells #[ov] 46 (0, 0))
  h7 : w.heap[p7]? = some (.cells #[.pointer (some ⟨B, 0, none⟩)] 39 (0, 0))
  fr : Fresh w0 w
  base : ∀ k, V k → w0.heap.size ≤ k
  d1 : ∀ k, V k → k ≠ p2 ∧ k ≠ p6 ∧ k ≠ p7 ∧ ov.ownBlock ≠ some k ∧ u.ownBlock ≠ some k
  d2 : ∀ k, ov.ownBlock = some k → w0.heap.size ≤ k ∧ k ≠ p2 ∧ k ≠ p6 ∧ k ≠ p7 ∧ u.ownBlock ≠ some k
  d3 : ∀ k, u.ownBlock = some k → w0.heap.size ≤ k ∧ k ≠ p2 ∧ k ≠ p6 ∧ k ≠ p7
  d4 : p6 ≠ p2 ∧ p6 ≠ p7 ∧ w0.heap.size ≤ p6
theorem own_lt {w : World} {base : Nat} {e : TypeId} {size : Nat} {v : Value} {n : Nat} {xs : List Value} (h : w.ownsRow base e size v n xs) : ∀ k, v.ownBlock = some k → k < w.heap.size := by
  intro k hk
  rcases h.2 with ⟨rfl, _⟩ | ⟨g, cap, cur, rfl, hb, hg, _⟩
  · cases hk
  · have hgl := heap_lt hg
    have hk : some g = some k := hk
    injection hk with hk
    omega
theorem own_kept {w w' : World} {base : Nat} {e : TypeId} {size : Nat} {v : Value} {n : Nat} {xs : List Value} (h : w.ownsRow base e size v n xs) (hk : ∀ k, v.ownBlock = some k → w'.heap[k]? = w.heap[k]?) : w'.ownsRow base e size v n xs := by
  refine ⟨h.1, ?_⟩
  rcases h.2 with h | ⟨g, cap, cur, hv, hb, hg, r⟩
  · exact Or.inl h
  · exact Or.inr ⟨g, cap, cur, hv, hb, (hk g (by rw [hv]; rfl)).trans hg, r⟩
section
variable {w0 : World} {p2 p6 p7 B n : Nat} {nv : Value} {w w' : World} {V : Nat → Prop} {l : List Nat} {ov : Value} {st : List Stp} {u : Value} {ord : List Nat}
theorem EO.fresh (h : EO w0 p2 p6 p7 B n nv w V l ov st u ord) (hf : Fresh w w') : EO w0 p2 p6 p7 B n nv w' V l ov st u ord :=
  ⟨h.vst.fresh hf, own_kept h.own fun k hk => hf.below.block k (own_lt h.own k hk), h.ord.fresh hf, h.rest, (hf.below.block _ (heap_lt h.h2)).trans h.h2, (hf.below.block _ (heap_lt h.h6)).trans h.h6, (hf.below.block _ (heap_lt h.h7)).trans h.h7, h.fr.trans hf, h.base, h.d1, h.d2, h.d3, h.d4⟩
theorem EO.come (h : EO w0 p2 p6 p7 B n nv w V l ov st u ord) {l' : List Nat} (hc : CP V B n l l' w w') : ∃ V', EO w0 p2 p6 p7 B n nv w' V' l' ov st u ord := by
  obtain ⟨V', h1, h2, h3⟩ := hc
  have z2 := heap_lt h.h2
  have z6 := heap_lt h.h6
  have z7 := heap_lt h.h7
  have zf := h.fr.size
  refine ⟨V', h1, own_kept h.own fun k hk => h3.block k (own_lt h.own k hk) fun hv => (h.d1 k hv).2.2.2.1 hk, h3.que h.ord fun k hk hv => (h.d1 k hv).2.2.2.2 hk, h.rest, (h3.block _ z2 fun hv => (h.d1 _ hv).1 rfl).trans h.h2, (h3.block _ z6 fun hv => (h.d1 _ hv).2.1 rfl).trans h.h6, (h3.block _ z7 fun hv => (h.d1 _ hv).2.2.1 rfl).trans h.h7, h3.fresh h.fr h.base, fun k hk => ?_, fun k hk => ?_, h.d2, h.d3, h.d4⟩
  · rcases h2 k hk with r | r
    · exact h.base k r
    · omega
  · rcases h2 k hk with r | r
    · exact h.d1 k r
    · exact ⟨by omega, by omega, by omega, fun e => by have := own_lt h.own k e; omega, fun e => by have := (h.ord.lt k e).2; omega⟩
/-- A change of the way's row and of the box that holds it. -/
theorem EO.open' (h : EO w0 p2 p6 p7 B n nv w V l ov st u ord) {w2 : World} {ov' : Value} {st' : List Stp} {D : Nat → Prop} (hk : Keep D w w2) (hD : ∀ k, D k → ov.ownBlock = some k) (ho : w2.ownsRow w0.heap.size 48 2 ov' st'.length (flatS st')) (hn : ∀ k, ov'.ownBlock = some k → ov.ownBlock = some k ∨ w.heap.size ≤ k) (hr : ∀ s ∈ st', Ints T w0 s.2.1 s.2.2) :
    EO w0 p2 p6 p7 B n nv (w2.setCell ⟨p6, 0, none⟩ ov') V l ov' st' u ord := by
  have z2 := heap_lt h.h2
  have z6 := heap_lt h.h6
  have z7 := heap_lt h.h7
  have zf := h.fr.size
  have hnV : ∀ k, V k → ¬ D k := fun k hv hd => (h.d1 k hv).2.2.2.1 (hD k hd)
  have K2 : Keep (fun k => ov.ownBlock = some k ∨ k = p6) w (w2.setCell ⟨p6, 0, none⟩ ov') := Keep.setCell (D := fun k => ov.ownBlock = some k ∨ k = p6) (hk.mono fun k hd => Or.inl (hD k hd)) (p := ⟨p6, 0, none⟩) (Or.inr rfl) ov'
  have hd2 : ∀ k, ov'.ownBlock = some k → w0.heap.size ≤ k ∧ k ≠ p2 ∧ k ≠ p6 ∧ k ≠ p7 ∧ u.ownBlock ≠ some k := fun k e => by
    rcases hn k e with r | r
    · exact h.d2 k r
    · exact ⟨by omega, by omega, by omega, by omega, fun e => by have := (h.ord.lt k e).2; omega⟩
  have h6' : w2.heap[p6]? = some (.cells #[ov] 46 (0, 0)) := (hk.block p6 z6 fun hd => (h.d2 _ (hD _ hd)).2.2.1 rfl).trans h.h6
  refine ⟨h.vst.keep K2 fun k hv e => ?_, own_kept ho fun k e => Below.heap_setCell _ _ _ _ (fun e' => (hd2 k e).2.2.1 e'), K2.que h.ord fun k e e' => ?_, hr, (K2.block _ z2 fun e => ?_).trans h.h2, ?_, (K2.block _ z7 fun e => ?_).trans h.h7, K2.fresh h.fr fun k e => ?_, h.base, fun k hv => ⟨(h.d1 k hv).1, (h.d1 k hv).2.1, (h.d1 k hv).2.2.1, fun e => ?_, (h.d1 k hv).2.2.2.2⟩, hd2, h.d3, h.d4⟩
  · rcases e with e | e
    · exact (h.d1 k hv).2.2.2.1 e
    · exact (h.d1 k hv).2.1 e
  · rcases e' with e' | e'
    · exact (h.d2 k e').2.2.2.2 e
    · exact (h.d3 k e).2.2.1 e'
  · rcases e with e | e
    · exact (h.d2 _ e).2.1 rfl
    · exact h.d4.1 e.symm
  · rw [heap_set h6' 0 ov']; rfl
  · rcases e with e | e
    · exact (h.d2 _ e).2.2.2.1 rfl
    · exact h.d4.2.1 e.symm
  · rcases e with e | e
    · exact (h.d2 _ e).1
    · rw [e]; exact h.d4.2.2
  · rcases hn k e with r | r
    · exact (h.d1 k hv).2.2.2.1 r
    · have := h.vst.lt k hv; omega
end
end Go.Proofs.Ytlmlgdojmcmllaa
