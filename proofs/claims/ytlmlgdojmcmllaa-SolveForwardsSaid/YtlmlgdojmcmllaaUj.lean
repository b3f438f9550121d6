/- All things of a flow, rising. -/
import Derived.Test.YtlmlgdojmcmllaaUi
namespace Go.Proofs.Ytlmlgdojmcmllaa
set_option linter.unusedSimpArgs false
set_option linter.unusedVariables false
open Go.RowKit
open Solve

theorem compact_inc {d : Array Int} (hs : ∀ i j : Nat, i ≤ j → j < d.size → d[i]! ≤ d[j]!) : ∀ m, m ≤ d.size → Inc (Lib.compactUpTo d m) ∧ (∀ x, x ∈ Lib.compactUpTo d m ↔ ∃ j, j < m ∧ d[j]! = x) := by
  intro m
  induction m with
  | zero => intro _; exact ⟨by simp [Lib.compactUpTo, Inc], fun x => by simp [Lib.compactUpTo]⟩
  | succ m ih =>
    intro hm
    obtain ⟨h1, h2⟩ := ih (by omega)
    rw [Lib.compactUpTo_succ]
    by_cases hk : Lib.keeps d m = true
    · rw [if_pos hk]
      refine ⟨List.pairwise_append.2 ⟨h1, List.pairwise_singleton _ _, fun a ha b hb => ?_⟩, fun x => ?_⟩
      · have hb : b = d[m]! := by simpa using hb
        obtain ⟨j, hj, rfl⟩ := (h2 a).1 ha
        have e1 := hs j (m - 1) (by omega) (by omega)
        have e2 := hs (m - 1) m (by omega) (by omega)
        have e3 : d[m]! ≠ d[m - 1]! := by
          simp only [Lib.keeps, decide_eq_true_eq] at hk
          rcases hk with h | h
          · omega
          · exact h
        omega
      · rw [List.mem_append, h2, List.mem_singleton]
        constructor
        · rintro (⟨j, hj, e⟩ | e)
          · exact ⟨j, by omega, e⟩
          · exact ⟨m, by omega, e.symm⟩
        · rintro ⟨j, hj, e⟩
          by_cases hjm : j = m
          · subst hjm; exact Or.inr e.symm
          · exact Or.inl ⟨j, by omega, e⟩
    · rw [if_neg hk, List.append_nil]
      refine ⟨h1, fun x => ?_⟩
      rw [h2]
      constructor
      · rintro ⟨j, hj, e⟩; exact ⟨j, by omega, e⟩
      · rintro ⟨j, hj, e⟩
        by_cases hjm : j = m
        · subst hjm
          simp only [Lib.keeps, decide_eq_true_eq] at hk
          have h0 : j ≠ 0 := fun h => hk (Or.inl h)
          have h3 : d[j]! = d[j - 1]! := Classical.byContradiction fun h => hk (Or.inr h)
          exact ⟨j - 1, by omega, by rw [← h3]; exact e⟩
        · exact ⟨j, by omega, e⟩
theorem sorted_compact (l : List Int) : Inc (Lib.compact (l.mergeSort fun x y => decide (x ≤ y))) ∧ ∀ x, x ∈ Lib.compact (l.mergeSort fun x y => decide (x ≤ y)) ↔ x ∈ l := by
  have hp : (l.mergeSort fun x y => decide (x ≤ y)).Pairwise fun a b => decide (a ≤ b) = true := List.pairwise_mergeSort (fun a b c h1 h2 => by simp at *; omega) (fun a b => by simp; omega) l
  obtain ⟨z, hz⟩ : ∃ z, z = l.mergeSort fun x y => decide (x ≤ y) := ⟨_, rfl⟩
  rw [← hz] at hp ⊢
  have get : ∀ i, i < z.length → z.toArray[i]! = z.getD i 0 := fun i hi => by simp [List.getD, hi]
  have hs : ∀ i j : Nat, i ≤ j → j < z.toArray.size → z.toArray[i]! ≤ z.toArray[j]! := fun i j hij hj => by
    have hj' : j < z.length := by simpa using hj
    by_cases e : i = j
    · subst e; exact Int.le_refl _
    · have := List.pairwise_iff_getElem.1 hp i j (by omega) hj' (by omega)
      rw [get i (by omega), get j hj']
      simp only [List.getD, List.getElem?_eq_getElem (show i < z.length by omega), List.getElem?_eq_getElem hj', Option.getD_some]
      simpa using this
  obtain ⟨h1, h2⟩ := compact_inc hs z.length (by simp)
  refine ⟨h1, fun x => ?_⟩
  have h3 := h2 x
  rw [show x ∈ l ↔ x ∈ z by rw [hz]; exact List.mem_mergeSort.symm]
  rw [show Lib.compact z = Lib.compactUpTo z.toArray z.length from rfl, h3]
  constructor
  · rintro ⟨j, hj, e⟩
    rw [get j hj] at e
    rw [← e]; simp only [List.getD, List.getElem?_eq_getElem hj, Option.getD_some]; exact List.getElem_mem hj
  · intro hx
    obtain ⟨j, hj, e⟩ := List.getElem_of_mem hx
    exact ⟨j, hj, by rw [get j hj]; simp only [List.getD, List.getElem?_eq_getElem hj, Option.getD_some]; exact e⟩
theorem compact_len (l : List Int) : (Lib.compact l).length ≤ l.length := by
  have := List.length_filter_le (Lib.keeps l.toArray) (List.range l.length)
  simpa [Lib.compact, Lib.compactUpTo] using this
theorem ItF.iter {P : Program} {k : TypeId} {w : World} {o : Option Nat} {r : Nat} {S : Int → Bool} {cnt : Nat} (h : ItF P k w o r S cnt) : ∃ m a s c, w.heap[r]? = some (.mapIter m a s c) := by
  cases o with
  | none => obtain ⟨⟨a, s, c, h⟩, _⟩ := h; exact ⟨_, a, s, c, h⟩
  | some b =>
    obtain ⟨n, D, left, ⟨es, clock, since, seen, c0, _, _, _, _, h5, _⟩, _⟩ := h
    exact ⟨_, _, _, _, h5⟩
theorem que_iter {w : World} {base : Nat} {e : TypeId} {v : Value} {xs : List Value} (h : Que w base e v xs) {r : Nat} {m : Option Nat} {a : Nat} {s : Array Nat} {c : Nat} (hr : w.heap[r]? = some (.mapIter m a s c)) : v.ownBlock ≠ some r := by
  intro e
  rcases h with ⟨rfl, _⟩ | ⟨g, off, cap, cur, rfl, hb, hg, _⟩
  · cases e
  · have e : some g = some r := e
    injection e with e
    rw [e, hr] at hg; cases hg
/-- Within one of the loops: what is gathered, what is still to come. -/
structure TH (w0 w : World) (u : Value) (ts : List Int) (o : Option Nat) (r : Nat) (S : Int → Bool) (cnt : Nat) (all : Int → Bool) (B : Nat) : Prop where
  q : Que w w0.heap.size 3 u (nums ts)
  it : ItF Try.prog 3 w o r S cnt
  len : ts.length + cnt ≤ B
  key : ∀ a ∈ ts, Key a
  all : ∀ a, Key a → (all a = true ↔ a ∈ ts ∨ S a = true)
  fr : Fresh w0 w
  lo : w0.heap.size ≤ r
  ob : ∀ b, o = some b → b < w0.heap.size
theorem TH.next {w0 w w' : World} {u : Value} {ts : List Int} {o : Option Nat} {r : Nat} {S : Int → Bool} {cnt cnt' : Nat} {all : Int → Bool} {B : Nat} (h : TH w0 w u ts o r S cnt all B) (hg : w.grownBy w' (some r)) :
    Que w' w0.heap.size 3 u (nums ts) ∧ Fresh w0 w' := by
  obtain ⟨m, a, s, c, hr⟩ := h.it.iter
  have hne := que_iter h.q hr
  refine ⟨h.q.kept fun k hk => hg.block k (h.q.lt k hk).2 fun e => hne (by rw [hk, e]), h.fr.grown hg fun k e => by injection e with e; rw [← e]; exact h.lo⟩
theorem TH.put {w0 w w1 wa w2 : World} {u u2 : Value} {ts : List Int} {o : Option Nat} {r : Nat} {S : Int → Bool} {cnt cnt' : Nat} {all : Int → Bool} {B : Nat} {a : Int} (h : TH w0 w u ts o r S cnt all B) (ha : Key a) (hS : S a = true) (hc : cnt' < cnt)
    (hI : ItF Try.prog 3 w1 o r (fun z => S z && !decide (z = a)) cnt') (hq1 : Que w1 w0.heap.size 3 u (nums ts)) (hf1 : Fresh w0 w1) (hw : Fresh w1 wa) (hq : Que w2 w0.heap.size 3 u2 (nums ts ++ [.int .i64 a])) (hg : wa.grownBy w2 u.ownBlock) :
    TH w0 w2 u2 (ts ++ [a]) o r (fun z => S z && !decide (z = a)) cnt' all B := by
  obtain ⟨m, x, s, c, hr⟩ := hI.iter
  have hne := que_iter hq1 hr
  have hrl := heap_lt hr
  have hz := hw.size
  have hz1 := hf1.size
  refine ⟨by rw [nums_app]; exact hq, hI.block ?_ fun b hb => ?_, by have := h.len; simp; omega, fun z hz => ?_, fun z hz => ?_, (hf1.trans hw).grown hg fun k hk => (hq1.lt k hk).1, h.lo, h.ob⟩
  · rw [hg.block r (by omega) fun e => hne e.symm, hw.below.block r hrl]
  · have hbl := h.ob b hb
    rw [hg.block b (by omega) fun e => by have := (hq1.lt b e.symm).1; omega, hw.below.block b (by omega)]
  · rcases List.mem_append.1 hz with e | e
    · exact h.key z e
    · have : z = a := by simpa using e
      rw [this]; exact ha
  · rw [h.all z hz, List.mem_append, List.mem_singleton, Bool.and_eq_true, Bool.not_eq_true', decide_eq_false_iff_not]
    constructor
    · rintro (e | e)
      · exact Or.inl (Or.inl e)
      · by_cases hza : z = a
        · exact Or.inl (Or.inr hza)
        · exact Or.inr ⟨e, hza⟩
    · rintro ((e | e) | e)
      · exact Or.inl e
      · rw [e]; exact Or.inr hS
      · exact Or.inr e.1
end Go.Proofs.Ytlmlgdojmcmllaa
