/- A whole memory: New, Alloc, Size, Fix, Free. -/
import Derived.Test.YtjbflmpnmobngaaMv
namespace Go.Proofs.Ytjbflmpnmobngaa
set_option linter.unusedSimpArgs false
set_option linter.unusedVariables false
open Go.RowKit

variable {w w' : World} {M T mb N : Nat} {L : Nat → Prop} {made : Int} {S : Int → Option BS} {f : Int → Option Nat} {o : Int → Nat → Prop}
def noS : Int → Option BS := fun _ => none
theorem new_mem (hL : ∀ k, L k → k < w.heap.size) : Calls Try.prog 8 #[] w fun e w' => e = .returned (.pointer (some ⟨w.heap.size + 1, 0, none⟩)) ∧ Mem w' (w.heap.size + 1) 0 L 0 noS ∧ Fresh w w' := by
  refine (new_any w).mono ?_
  rintro e w' ⟨he, hw⟩
  subst hw
  have hm := (MapF.made w Try.prog 3).alloc (.cells #[.map (some w.heap.size), .int .i64 0] 58)
  refine ⟨he, ⟨w.heap.size, 0, fun _ => none, fun _ _ => False, ⟨by simp [go_sem], by simp [go_sem], ?_, fun i => ?_, by omega, ?_⟩, Nat.le_refl _, fun _ _ => rfl, ?_, ?_, ?_, ?_, ?_, ?_⟩, ?_⟩
  · have e1 : blkV (fun _ => none) = fun _ => none := by funext x; rfl
    rw [e1]; exact hm
  · exact World.frozen?_alloc_at _ _ _ i (by simp)
  · intro i B hi; cases hi
  · intro i B hi; cases hi
  · intro i j B C hi; cases hi
  · intro i B hi; cases hi
  · intro hl; have := hL _ hl; omega
  · intro hl; have := hL _ hl; omega
  · intro k hk; have := hL k hk; simp; omega
  · refine ⟨⟨rfl, rfl, rfl, by simp; omega, fun k hk => ?_⟩, fun a => ?_⟩
    · rw [Below.heap_alloc _ _ _ (by simp; omega), Below.heap_alloc _ _ _ hk]
    · rw [RowKit.frozen?_alloc_cells, frozen?_alloc_map]
theorem alloc_no (size : Int) (hs : size < 0 ∨ 16777216 < size) (w : World) : Calls Try.prog 9 #[.pointer (some ⟨M, 0, none⟩), .int .i64 size] w fun e w' => e = .returned (.int .i64 0) ∧ w = w' := by
  rcases hs with hs | hs
  · exact alloc_neg M size hs w
  · exact alloc_big M size (by omega) hs w
theorem alloc_mem (h : Mem w M T L made S) (hT : T < maxLen) (hmd : made ≤ 2199023255552) (size : Int) (h0 : 0 ≤ size) (hs : size ≤ 16777216) :
    Calls Try.prog 9 #[.pointer (some ⟨M, 0, none⟩), .int .i64 size] w fun e w' => e = .returned (.int .i64 (made + 1)) ∧ Leaves M (T + 1) L (made + 1) (putS S (made + 1) ⟨size, false, noCell, noPtr⟩) w w' := by
  obtain ⟨mb, N, f, o, h⟩ := h
  refine (alloc_any M mb N made f size h0 hs (Nat.lt_of_le_of_lt h.nT hT) hmd w h.rep).mono ?_
  rintro e w' ⟨he, hR, hB, hSp, hz, ht⟩
  have hM := h.rep.ltM
  have hmb := h.rep.ltmb
  have hnone : f (made + 1) = none := by
    cases hq : f (made + 1) with
    | none => rfl
    | some B => have := h.rep.fm _ B hq; omega
  have hfo : ∀ i B, f i = some B → i ≠ made + 1 := fun i B hi e => by rw [e, hnone] at hi; cases hi
  have hpi : ∀ i C, putB f (made + 1) w.heap.size i = some C → i = made + 1 ∧ C = w.heap.size ∨ i ≠ made + 1 ∧ f i = some C := by
    intro i C hi
    unfold putB at hi
    by_cases e : i = made + 1
    · rw [if_pos e] at hi; injection hi with hi; exact Or.inl ⟨e, hi.symm⟩
    · rw [if_neg e] at hi; exact Or.inr ⟨e, hi⟩
  refine ⟨he, ⟨mb, N + 1, _, fun i k => if i = made + 1 then owns w.heap.size none none noRow k else o i k, hR, Nat.succ_le_succ h.nT, ?_, ?_, ?_, ?_, h.lM, h.lmb, fun k hk => Nat.lt_of_lt_of_le (h.lt k hk) ht.size⟩, ht.mono fun k hk hl => ?_⟩
  · intro i hi
    unfold putB at hi
    by_cases e : i = made + 1
    · rw [if_pos e] at hi; cases hi
    · rw [if_neg e] at hi; simp [putS, e, h.non i hi]
  · intro i C hi
    rcases hpi i C hi with ⟨e, rfl⟩ | ⟨e, hi⟩
    · subst e
      exact ⟨⟨size, false, noCell, noPtr⟩, by simp [putS], none, none, noRow, 0, 0, hB, hSp, Nat.zero_le _, Nat.zero_le _, fun k => by simp⟩
    · obtain ⟨s, hsi, hBi⟩ := h.som i C hi
      refine ⟨s, by simp [putS, e, hsi], ?_⟩
      simp only [if_neg e]
      have := hBi.touched ht fun k hk g => by
        have := h.own i C hi k hk
        rcases g with g | g
        · exact this.1 g
        · exact this.2.1 g
      obtain ⟨pg, pt, row, n1, n2, r1, r2, r3, r4, r5⟩ := this
      exact ⟨pg, pt, row, n1, n2, r1, r2, Nat.le_succ_of_le r3, Nat.le_succ_of_le r4, r5⟩
  · intro i j C D hi hj hij k hk hk'
    rcases hpi i C hi with ⟨e, rfl⟩ | ⟨e, hi⟩
    · rcases hpi j D hj with ⟨e', _⟩ | ⟨e', hj⟩
      · exact hij (e.trans e'.symm)
      · simp only [if_pos e] at hk
        simp only [if_neg e'] at hk'
        have := h.ownlt hj hk'
        rcases hk with g | g | g | ⟨p, g⟩
        · omega
        · cases g
        · cases g
        · cases g
    · simp only [if_neg e] at hk
      rcases hpi j D hj with ⟨e', rfl⟩ | ⟨e', hj⟩
      · simp only [if_pos e'] at hk'
        have := h.ownlt hi hk
        rcases hk' with g | g | g | ⟨p, g⟩
        · omega
        · cases g
        · cases g
        · cases g
      · simp only [if_neg e'] at hk'
        exact h.apart i j C D hi hj hij k hk hk'
  · intro i C hi k hk
    rcases hpi i C hi with ⟨e, rfl⟩ | ⟨e, hi⟩
    · simp only [if_pos e] at hk
      have hk : k = w.heap.size := by
        rcases hk with g | g | g | ⟨p, g⟩
        · exact g
        · cases g
        · cases g
        · cases g
      exact ⟨by omega, by omega, fun hl => by have := h.lt k hl; omega⟩
    · simp only [if_neg e] at hk
      exact h.own i C hi k hk
  · rcases hk with rfl | rfl
    · exact h.lM hl
    · exact h.lmb hl

def sizeS (S : Int → Option BS) (n : Int) : Int × Bool := match S n with | none => (0, false) | some s => (s.sz, true)
theorem size_mem (h : Mem w M T L made S) (n : Int) (hn : Key n) (x : Int) (t : Bool) (hv : sizeS S n = (x, t)) :
    Calls Try.prog 21 #[.pointer (some ⟨M, 0, none⟩), .int .i64 n] w fun e w' => e = .returned (.tuple #[.int .i64 x, .bool t]) ∧ w = w' := by
  obtain ⟨mb, N, f, o, h⟩ := h
  unfold sizeS at hv
  cases hf : f n with
  | none =>
    rw [h.non n hf] at hv
    injection hv with h1 h2
    subst h1 h2
    exact size_none n hn hf h.rep
  | some B =>
    obtain ⟨s, hs, hB⟩ := h.som n B hf
    rw [hs] at hv
    injection hv with h1 h2
    subst h1 h2
    exact size_some n hn B _ hf h.rep hB.c0.1
theorem Touch.allBlock {w w' : World} {F : Nat → Prop} (h : Touch F w w') (hs : w'.heap.size = w.heap.size) (k : Nat) (hk : ¬ F k) : w'.heap[k]? = w.heap[k]? := by
  by_cases hlt : k < w.heap.size
  · exact h.block k hlt hk
  · rw [Array.getElem?_eq_none (by omega), Array.getElem?_eq_none (by omega)]
theorem BRep.fix {B : Nat} {sz : Int} {fx : Bool} {pg pt : Option Nat} {n1 n2 : Nat} {row : Int → Option Nat} {cell : Nat → Int} {ptr : Int → Option (Int × Int × Int)} (h : BRep w B sz fx pg pt n1 n2 row cell ptr) (hS : Sep w B pg pt row) :
    BRep (w.setCell ⟨B, 1, none⟩ (.bool true)) B sz true pg pt n1 n2 row cell ptr ∧ Sep (w.setCell ⟨B, 1, none⟩ (.bool true)) B pg pt row := by
  have hk : ∀ k, k ≠ B → (w.setCell ⟨B, 1, none⟩ (.bool true)).heap[k]? = w.heap[k]? := fun k hk => ((Touch.refl (fun k => k = B) w).setCell (p := ⟨B, 1, none⟩) (Or.inl rfl) (.bool true)).allBlock (by simp) k hk
  refine ⟨⟨?_, ?_, ?_, ?_, h.s0, h.s1, h.pgs.kept fun b hb => hk b ?_, h.pts.kept fun b hb => hk b ?_, fun p r hr i hi => cell_kept (h.rws p r hr i hi) (hk r (hS.rB p r hr)), h.non, h.rng⟩, ⟨hS.rB, hS.rr, hS.pp, fun p r hr => ⟨by simpa using (hS.rl p r hr).1, by rw [hk r (hS.rB p r hr)]; exact (hS.rl p r hr).2⟩, fun k ho o => by rw [show (w.setCell ⟨B, 1, none⟩ (.bool true)).frozen? ⟨k, o, none⟩ = w.frozen? ⟨k, o, none⟩ by simp [go_sem]]; exact hS.fr k ho o, hS.rp⟩⟩
  · rw [World.cell?_setCell_other _ _ _ _ (by simp)]; exact h.c0
  · exact World.cell?_setCell_same _ _ _ h.c1
  · rw [World.cell?_setCell_other _ _ _ _ (by simp)]; exact h.c2
  · rw [World.cell?_setCell_other _ _ _ _ (by simp)]; exact h.c3
  · have := h.pgs; subst hb; exact MapF.ne this h.c0
  · have := h.pts; subst hb; exact MapF.ne this h.c0
def fixS (S : Int → Option BS) (n : Int) : Bool × (Int → Option BS) := match S n with | none => (false, S) | some s => (true, putS S n { s with fx := true })
theorem fix_mem (h : Mem w M T L made S) (n : Int) (hn : Key n) (v : Bool) (S' : Int → Option BS) (hv : fixS S n = (v, S')) :
    Calls Try.prog 13 #[.pointer (some ⟨M, 0, none⟩), .int .i64 n] w fun e w' => e = .returned (.bool v) ∧ Leaves M T L made S' w w' := by
  have hMem := h
  obtain ⟨mb, N, f, o, h⟩ := h
  unfold fixS at hv
  cases hf : f n with
  | none =>
    rw [h.non n hf] at hv
    injection hv with h1 h2
    subst h1 h2
    refine (fix_none n hn hf h.rep).mono ?_
    rintro e w' ⟨he, rfl⟩
    exact ⟨he, hMem, Touch.refl _ _⟩
  | some B =>
    obtain ⟨s, hs, pg, pt, row, n1, n2, hR, hS, t1, t2, ho⟩ := h.som n B hf
    rw [hs] at hv
    injection hv with h1 h2
    subst h1 h2
    have hoB : o n B := (ho B).2 (Or.inl rfl)
    refine (fix_some n hn B s.fx hf h.rep hR.c1 (hS.fr B (Or.inl rfl) 1)).mono ?_
    rintro e w' ⟨he, hw⟩
    subst hw
    have ht : Touch (fun k => k = B) w (w.setCell ⟨B, 1, none⟩ (.bool true)) := (Touch.refl (fun k => k = B) w).setCell (p := ⟨B, 1, none⟩) (Or.inl rfl) (.bool true)
    have hoM := h.own n B hf B hoB
    refine ⟨he, ⟨mb, N, f, o, h.rep.kept (ht.block M h.rep.ltM (fun q => hoM.1 q.symm)) (ht.block mb h.rep.ltmb (fun q => hoM.2.1 q.symm)), h.nT, ?_, ?_, h.apart, h.own, h.lM, h.lmb, fun k hk => Nat.lt_of_lt_of_le (h.lt k hk) ht.size⟩, ht.mono fun k hk hl => hoM.2.2 (by rw [← hk]; exact hl)⟩
    · intro i hi
      by_cases e : i = n
      · subst e; rw [hf] at hi; cases hi
      · simp [putS, e, h.non i hi]
    · intro i C hi
      by_cases e : i = n
      · subst e
        obtain rfl : B = C := by rw [hf] at hi; injection hi
        obtain ⟨r1, r2⟩ := hR.fix hS
        exact ⟨⟨s.sz, true, s.cell, s.ptr⟩, by simp [putS], pg, pt, row, n1, n2, r1, r2, t1, t2, ho⟩
      · obtain ⟨si, hsi, hBi⟩ := h.som i C hi
        refine ⟨si, by simp [putS, e, hsi], hBi.touched ht fun k hk g => ?_⟩
        subst g
        exact h.apart i n C k hi hf e k hk hoB
def freeS (S : Int → Option BS) (n : Int) : Bool × (Int → Option BS) := match S n with | none => (false, S) | some _ => (true, delS S n)
theorem free_mem (h : Mem w M T L made S) (n : Int) (hn : Key n) (v : Bool) (S' : Int → Option BS) (hv : freeS S n = (v, S')) :
    Calls Try.prog 11 #[.pointer (some ⟨M, 0, none⟩), .int .i64 n] w fun e w' => e = .returned (.bool v) ∧ Leaves M T L made S' w w' := by
  have hMem := h
  obtain ⟨mb, N, f, o, h⟩ := h
  unfold freeS at hv
  cases hf : f n with
  | none =>
    rw [h.non n hf] at hv
    injection hv with h1 h2
    subst h1 h2
    refine (free_none n hn hf h.rep).mono ?_
    rintro e w' ⟨he, rfl⟩
    exact ⟨he, hMem, Touch.refl _ _⟩
  | some B =>
    obtain ⟨s, hs, hB⟩ := h.som n B hf
    rw [hs] at hv
    injection hv with h1 h2
    subst h1 h2
    refine (free_some n hn B hf h.rep).mono ?_
    rintro e w' ⟨he, hR, ht⟩
    have hd : ∀ i C, delB f n i = some C → i ≠ n ∧ f i = some C := by
      intro i C hi
      unfold delB at hi
      split at hi
      · cases hi
      · exact ⟨by assumption, hi⟩
    refine ⟨he, ⟨mb, N, _, o, hR, h.nT, ?_, ?_, ?_, ?_, h.lM, h.lmb, fun k hk => Nat.lt_of_lt_of_le (h.lt k hk) ht.size⟩, ht.mono fun k hk hl => h.lmb (by rw [← hk]; exact hl)⟩
    · intro i hi
      unfold delS
      split
      · rfl
      · rename_i e; exact h.non i (by simpa [delB, e] using hi)
    · intro i C hi
      obtain ⟨e, hi⟩ := hd i C hi
      obtain ⟨si, hsi, hBi⟩ := h.som i C hi
      exact ⟨si, by simp [delS, e, hsi], hBi.touched ht fun k hk g => (h.own i C hi k hk).2.1 g⟩
    · intro i j C D hi hj
      exact h.apart i j C D (hd i C hi).2 (hd j D hj).2
    · intro i C hi
      exact h.own i C (hd i C hi).2
end Go.Proofs.Ytjbflmpnmobngaa
