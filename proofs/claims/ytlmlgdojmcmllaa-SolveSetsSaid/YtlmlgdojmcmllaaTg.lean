/- The library's Reverse, Sort and Compact at a row of the call's own. -/
import Derived.Test.YtlmlgdojmcmllaaTf
import Derived.Test.YtlmlgdojmcmllaaSh
import Derived.Sort.OwnSortedInts
namespace Go.Proofs.Ytlmlgdojmcmllaa
set_option linter.unusedSimpArgs false
set_option linter.unusedVariables false
open Go.RowKit Go.Sort
open Solve

theorem que_holds {w : World} {base : Nat} {e : TypeId} {g off cap n : Nat} {l : List Int} (h : Que w base e (.slice (some ⟨g, off, none⟩) n cap) (nums l)) : Holds (Value.int .i64) w g off l.toArray := by
  rcases h with ⟨h, _⟩ | ⟨g', off', cap', cur, hv, hb, hg, hc, hm, hs, ht⟩
  · cases h
  · cases hv
    intro j hj
    have hj' : j < l.length := by simpa using hj
    refine ⟨?_, frozen_of hg _⟩
    rw [cell_of_row w g (off + j) _ e (0, 0) hg, ht j _ (nums_at l j hj')]
    simp [List.getD, hj']
theorem que_put {w : World} {base : Nat} {e : TypeId} {g off cap n q m : Nat} {l ts : List Int} (os : Array Obj) (h : Que w base e (.slice (some ⟨g, off, none⟩) n cap) (nums l)) (hl : ts.length = l.length) (hm : m ≤ l.length) :
    Que (grow (putRow (Value.int .i64) (Sort.ahead w q) g off ts.toArray) os) base e (.slice (some ⟨g, off, none⟩) m cap) (nums (ts.take m)) ∧ Keep (· = g) w (grow (putRow (Value.int .i64) (Sort.ahead w q) g off ts.toArray) os) := by
  rcases h with ⟨h, _⟩ | ⟨g', off', cap', cur, hv, hb, hg, hc, hmx, hs, ht⟩
  · cases h
  · cases hv
    rw [nums_len] at hc
    have hgl := heap_lt hg
    have hg2 : (grow (putRow (Value.int .i64) (Sort.ahead w q) g off ts.toArray) os).heap[g]? = some (.cells (putCells (Value.int .i64) off ts.toArray cur) e (0, 0)) := by
      rw [heap_grow_old _ _ (by simpa using hgl)]
      simp [putRow, mapBlock, Sort.ahead, Array.getElem?_modify, hg, onCells]
    have hl2 : (nums (ts.take m)).length = m := by rw [nums_len, List.length_take]; omega
    refine ⟨Or.inr ⟨g, off, cap, _, by rw [hl2], hb, hg2, by rw [hl2]; omega, hmx, by simpa [putCells] using hs, fun i u hu => ?_⟩, ⟨rfl, rfl, rfl, by simp, fun k hk hne => ?_⟩⟩
    · have him : i < m := by
        rcases Nat.lt_or_ge i m with h | h
        · exact h
        · rw [List.getElem?_eq_none (by omega)] at hu; cases hu
      rw [nums_at _ _ (by rw [List.length_take]; omega)] at hu
      injection hu with hu
      subst hu
      simp only [putCells, Array.getElem?_mapIdx]
      rw [Array.getElem?_eq_getElem (by omega)]
      simp only [Option.map_some]
      rw [if_pos ⟨by omega, by simp; omega⟩]
      have : off + i - off = i := by omega
      rw [this]
      simp [List.getD, show i < ts.length by omega, List.getElem?_take, him]
    · rw [heap_grow_old _ _ (by simpa using hk)]
      have : ¬ g = k := fun e => hne e.symm
      simp [putRow, mapBlock, Sort.ahead, Array.getElem?_modify, this]
theorem que_cases {w : World} {base : Nat} {e : TypeId} {v : Value} {l : List Int} (h : Que w base e v (nums l)) : (l = [] ∧ ∃ p c, v = .slice p 0 c) ∨ (l ≠ [] ∧ ∃ g off cap, v = .slice (some ⟨g, off, none⟩) l.length cap ∧ g < w.heap.size ∧ l.length ≤ cap ∧ cap ≤ maxLen) := by
  have h0 := h
  rcases h with ⟨rfl, hx⟩ | ⟨g', off', cap', cur, hv, hb, hg, hc, hm, hs, ht⟩
  · have : l = [] := by cases l with | nil => rfl | cons a l => simp [nums] at hx
    exact Or.inl ⟨this, _, _, rfl⟩
  · rw [nums_len] at hv hc
    by_cases hl : l = []
    · subst hl; exact Or.inl ⟨rfl, _, _, hv⟩
    · exact Or.inr ⟨hl, g', off', cap', hv, heap_lt hg, hc, hm⟩
theorem reverse_q (v : Value) (base : Nat) (l : List Int) (w : World) (h : Que w base 3 v (nums l)) (hl : l.length ≤ 100000) :
    Calls Try.prog 32 #[v] w fun e w' => e = .returned (.tuple #[]) ∧ Que w' base 3 v (nums l.reverse) ∧ Keep (fun k => v.ownBlock = some k) w w' := by
  rcases que_cases h with ⟨rfl, p, c, rfl⟩ | ⟨hne, g, off, cap, rfl, hg, hc, hm⟩
  · refine (Try.slices_Reverse_int_empty p c w).mono ?_
    rintro e w' ⟨rfl, rfl⟩
    exact ⟨rfl, h, Keep.refl _ _⟩
  · refine (Try.slices_Reverse_int g off cap l w (que_holds h) (by omega)).mono ?_
    rintro e w' ⟨rfl, n, rfl⟩
    obtain ⟨h1, h2⟩ := que_put (q := n) (ts := l.reverse) (m := l.length) #[] h (by simp) (Nat.le_refl _)
    rw [grow_empty] at h1 h2
    rw [List.take_of_length_le (by simp)] at h1
    exact ⟨rfl, h1, h2.mono fun k e => by rw [e]; rfl⟩
theorem sort_q (v : Value) (base : Nat) (l : List Int) (w : World) (h : Que w base 3 v (nums l)) (hl : l.length ≤ 100000) :
    Calls Try.prog 47 #[v] w fun e w' => e = .returned (.tuple #[]) ∧ Que w' base 3 v (nums (l.mergeSort fun x y => decide (x ≤ y))) ∧ Keep (fun k => v.ownBlock = some k) w w' := by
  rcases que_cases h with ⟨rfl, p, c, rfl⟩ | ⟨hne, g, off, cap, rfl, hg, hc, hm⟩
  · refine (Try.slices_Sort_int_none p c w).mono ?_
    rintro e w' ⟨rfl, rfl⟩
    exact ⟨rfl, by simpa using h, Keep.refl _ _⟩
  · refine (Try.slices_Sort_int g off cap l w (que_holds h) hg (by omega)).mono ?_
    rintro e w' ⟨rfl, n, os, rfl⟩
    obtain ⟨h1, h2⟩ := que_put (q := n) (ts := l.mergeSort fun x y => decide (x ≤ y)) (m := l.length) os h (by simp) (Nat.le_refl _)
    rw [List.take_of_length_le (by simp)] at h1
    exact ⟨rfl, h1, h2.mono fun k e => by rw [e]; rfl⟩
theorem compact_q (v : Value) (base : Nat) (l : List Int) (w : World) (h : Que w base 3 v (nums l)) (hl : l.length ≤ 100000) :
    Calls Try.prog 48 #[v] w fun e w' => ∃ v', e = .returned v' ∧ Que w' base 3 v' (nums (Lib.compact l)) ∧ Keep (fun k => v.ownBlock = some k) w w' := by
  rcases que_cases h with ⟨rfl, p, c, rfl⟩ | ⟨hne, g, off, cap, rfl, hg, hc, hm⟩
  · refine (Try.slices_Compact_int_empty p c w).mono ?_
    rintro e w' ⟨rfl, rfl⟩
    exact ⟨_, rfl, by simpa [Lib.compact, Lib.compactUpTo] using h, Keep.refl _ _⟩
  · refine (Try.slices_Compact_int g off cap l w (que_holds h) (by omega) hc).mono ?_
    rintro e w' ⟨rfl, n, rfl⟩
    have hcl : (Lib.compact l).length ≤ l.length := by
      have := List.length_filter_le (Lib.keeps l.toArray) (List.range l.length)
      simpa [Lib.compact, Lib.compactUpTo] using this
    obtain ⟨h1, h2⟩ := que_put (q := n) (ts := Lib.compact l ++ List.replicate (l.length - (Lib.compact l).length) 0) (m := (Lib.compact l).length) #[] h (by simp; omega) hcl
    rw [grow_empty] at h1 h2
    rw [List.take_left'] at h1
    · exact ⟨_, rfl, h1, h2.mono fun k e => by rw [e]; rfl⟩
    · rfl
end Go.Proofs.Ytlmlgdojmcmllaa
