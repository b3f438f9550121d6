/- Lay: the boxes of its walk. -/
import Derived.Test.YteiomcbphbbpkaaGreatDoorCy
namespace Go.Proofs.YteiomcbphbbpkaaGreatDoor
set_option linter.unusedSimpArgs false
set_option linter.unusedVariables false
open Go.RowKit Go.Maps Go.WideMaps

/-- The boxes of the walk but for the set. -/
structure LV (w X : World) (nm : ByteArray) (un : Bool) (s : LS) (k : Nat) (fp : Option Addr) (fc : Nat) (xs : List Value) : Prop where
  fr : Fresh w X
  lo : w.heap.size + 3 ≤ X.heap.size
  r : Blk X w.heap.size [.string ⟨#[]⟩, .bool false, .slice none 0 0, .int .i64 0, .int .i64 0]
  l : Blk X (w.heap.size + 1) [.string nm, .bool un, .slice fp k fc, .int .i64 s.sz, .int .i64 s.al]
  own : X.ownsRow (w.heap.size + 3) 43 8 (.slice fp k fc) k xs
  kids : Fcells (fun b => w.heap.size + 3 ≤ b ∧ some b ≠ (Value.slice fp k fc).ownBlock) X s.acc xs
theorem LV.later {w X Y : World} {nm : ByteArray} {un : Bool} {s : LS} {k : Nat} {fp : Option Addr} {fc : Nat} {xs : List Value} (h : LV w X nm un s k fp fc xs) (hf : Fresh X Y) : LV w Y nm un s k fp fc xs :=
  ⟨h.fr.trans hf, Nat.le_trans h.lo hf.size, h.r.fresh hf, h.l.fresh hf, hf.own h.own, h.kids.later hf⟩
/-- The set has turned. -/
theorem LV.set {w X Y : World} {nm : ByteArray} {un : Bool} {s : LS} {k : Nat} {fp : Option Addr} {fc : Nat} {xs : List Value} (h : LV w X nm un s k fp fc xs) (hg : X.grownBy Y (some (w.heap.size + 1 + 1))) : LV w Y nm un s k fp fc xs := by
  refine ⟨h.fr.grown hg (fun k hk => by cases hk; omega), Nat.le_trans h.lo hg.size, h.r.grown hg (fun e => by have := Option.some.inj e; omega), h.l.grown hg (fun e => by have := Option.some.inj e; omega), h.own.kept hg (Or.inr (own_ne h.own (by omega))), h.kids.turn (fun B i u hB hu => hg.cell (a := ⟨B, i, none⟩) hu (fun e => by have e' := Option.some.inj e; have := hB.1; simp only at e'; omega)) (fun _ _ h => h)⟩
theorem LV.new (w : World) (nm : ByteArray) (un : Bool) : LV w (((w.alloc (.cells #[.string ⟨#[]⟩, .bool false, .slice none 0 0, .int .i64 0, .int .i64 0] 48)).alloc (.cells #[.string nm, .bool un, .slice none 0 0, .int .i64 0, .int .i64 1] 48)).alloc (.map #[] 0)) nm un LS.zero 0 none 0 [] := by
  refine ⟨((Fresh.refl w).alloc _ _ |>.alloc _ _).obj _, by simp, ?_, ?_, World.ownsRow_nil .., rfl⟩
  · exact ((Blk.new w #[.string ⟨#[]⟩, .bool false, .slice none 0 0, .int .i64 0, .int .i64 0] 48).fresh ((Fresh.refl _).alloc _ _)).fresh ((Fresh.refl _).obj _)
  · have := (Blk.new (w.alloc (.cells #[.string ⟨#[]⟩, .bool false, .slice none 0 0, .int .i64 0, .int .i64 0] 48)) #[.string nm, .bool un, .slice none 0 0, .int .i64 0, .int .i64 1] 48).fresh ((Fresh.refl _).obj (.map #[] 0))
    simpa only [World.size_alloc, LS.zero] using this
theorem Blk.other {w : World} {b : Nat} {vs : List Value} (h : Blk w b vs) {g : Nat} (hg : b ≠ g) (i : Nat) (u : Value) : Blk (w.setCell ⟨g, i, none⟩ u) b vs := by
  have hk : (w.setCell ⟨g, i, none⟩ u).heap[b]? = w.heap[b]? := Below.heap_setCell _ _ _ _ hg
  exact ⟨fun j v hv => (World.cell?_of_block hk).trans (h.1 j v hv), fun o => (World.frozen?_of_block hk).trans (h.2.1 o), by simpa [World.setCell] using h.2.2⟩
theorem Blk.put {w : World} {b : Nat} {vs : List Value} (h : Blk w b vs) {i : Nat} (hi : i < vs.length) (u : Value) : Blk (w.setCell ⟨b, i, none⟩ u) b (vs.set i u) := by
  have hc := h.1 i _ (List.getElem?_eq_getElem hi)
  refine ⟨fun j v hv => ?_, fun o => ?_, by simpa [World.setCell] using h.2.2⟩
  · by_cases e : i = j
    · subst e
      rw [List.getElem?_set_self hi] at hv
      cases hv
      exact World.cell?_setCell_same _ _ _ hc
    · rw [List.getElem?_set_ne e] at hv
      rw [World.cell?_setCell_other _ _ _ _ (by simp [e])]
      exact h.1 j v hv
  · rw [World.frozen?_setCell]
    exact h.2.1 o
theorem LV.next {w X Y : World} {nm : ByteArray} {un : Bool} {s : LS} {k : Nat} {fp : Option Addr} {fc : Nat} {xs : List Value} (h : LV w X nm un s k fp fc xs) {mn : ByteArray} {hd : Hd} {ks : Tys} {g c2 n2 c3 : Nat} {p2 : Option Addr} {M S A : Int}
    (own : Y.ownsRow (w.heap.size + 3) 43 8 (.slice (some ⟨g, 0, none⟩) (k + 1) c2) (k + 1) (xs ++ [.string mn, .int .i64 hd.kind, .int .i64 hd.size, .int .i64 hd.len, .bool hd.flag, .string hd.name, .slice p2 n2 c3, .int .i64 M]))
    (kid : Kids (fun b => X.heap.size ≤ b ∧ b ≠ g) Y ks p2 n2 c3) (gr : X.grownBy Y (Value.slice fp k fc).ownBlock) (hat : (Value.slice fp k fc).ownBlock = some g ∨ X.heap.size ≤ g) :
    LV w (((((Y.setCell ⟨w.heap.size + 1, 0, none⟩ (.string nm)).setCell ⟨w.heap.size + 1, 1, none⟩ (.bool un)).setCell ⟨w.heap.size + 1, 2, none⟩ (.slice (some ⟨g, 0, none⟩) (k + 1) c2)).setCell ⟨w.heap.size + 1, 3, none⟩ (.int .i64 S)).setCell ⟨w.heap.size + 1, 4, none⟩ (.int .i64 A))
      nm un ⟨s.acc ++ [⟨mn, hd, ks, M⟩], S, A⟩ (k + 1) (some ⟨g, 0, none⟩) c2 (xs ++ [.string mn, .int .i64 hd.kind, .int .i64 hd.size, .int .i64 hd.len, .bool hd.flag, .string hd.name, .slice p2 n2 c3, .int .i64 M]) := by
  have hlo := h.lo
  have hlt := h.own.lt
  have hg3 : w.heap.size + 3 ≤ g := by
    rcases hat with e | e
    · exact (hlt g e).1
    · omega
  have hne : (Value.slice (some ⟨g, 0, none⟩) (k + 1) c2).ownBlock ≠ some (w.heap.size + 1) := fun e => by
    have e' : g = w.heap.size + 1 := by simpa [Value.ownBlock] using e
    omega
  have hr0 := h.r.grown gr (fun e => by have := (hlt _ e.symm).1; omega)
  have hl0 := h.l.grown gr (fun e => by have := (hlt _ e.symm).1; omega)
  have hn1 : w.heap.size ≠ w.heap.size + 1 := by omega
  have hsz : X.heap.size ≤ Y.heap.size := gr.size
  have hcells : Fcells (fun b => w.heap.size + 3 ≤ b ∧ some b ≠ (Value.slice (some ⟨g, 0, none⟩) (k + 1) c2).ownBlock) Y (s.acc ++ [⟨mn, hd, ks, M⟩]) (xs ++ [.string mn, .int .i64 hd.kind, .int .i64 hd.size, .int .i64 hd.len, .bool hd.flag, .string hd.name, .slice p2 n2 c3, .int .i64 M]) := by
    refine Fcells.append (h.kids.turn (fun B i u hB hu => gr.cell (a := ⟨B, i, none⟩) hu hB.2) (fun B hlt' hB => ⟨hB.1, fun e => ?_⟩)) ⟨p2, n2, c3, [], rfl, kid.mono (fun B _ hB => ⟨by have := hB.1; omega, fun e => hB.2 (by simpa [Value.ownBlock] using e)⟩), rfl⟩
    have e' : B = g := by simpa [Value.ownBlock] using e
    rcases hat with e2 | e2
    · exact hB.2 (by rw [e2, e'])
    · omega
  have nok : ¬ (w.heap.size + 3 ≤ w.heap.size + 1 ∧ some (w.heap.size + 1) ≠ (Value.slice (some ⟨g, 0, none⟩) (k + 1) c2).ownBlock) := fun e => by have := e.1; omega
  refine ⟨?_, by simp [World.setCell]; omega, ?_, ?_, ?_, ?_⟩
  · refine ((((?_ : Fresh w Y).setCell ?_ _).setCell ?_ _ |>.setCell ?_ _).setCell ?_ _).setCell ?_ _
    · exact h.fr.grown gr (fun k hk => by have := (hlt k hk).1; omega)
    all_goals (show w.heap.size ≤ w.heap.size + 1; omega)
  · exact ((((hr0.other hn1 _ _).other hn1 _ _).other hn1 _ _).other hn1 _ _).other hn1 _ _
  · exact ((((hl0.put (i := 0) (by simp) _).put (i := 1) (by simp) _).put (i := 2) (by simp) _).put (i := 3) (by simp) _).put (i := 4) (by simp) _
  · exact own_set (own_set (own_set (own_set (own_set own hne _ _) hne _ _) hne _ _) hne _ _) hne _ _
  · exact ((((hcells.set nok _ _).set nok _ _).set nok _ _).set nok _ _).set nok _ _
/-- The set stays. -/
theorem ownsMap_later {P : Program} {k : TypeId} {R : Value → Option (DataW Unit × List MemPlace)} {w w' : World} {b n : Nat} {D : DataW Unit} (h : w.ownsMap P k R b n D) (hf : Fresh w w') : w'.ownsMap P k R b n D :=
  ownsMap_kept h (hf.below.block b (ownsMap_lt h))
theorem ownsMap_next {w X Y : World} {n : Nat} {D : DataW Unit} (h : X.ownsMap Tryz.prog 9 unitElem (w.heap.size + 1 + 1) n D) {row : Option Nat} (gr : X.grownBy Y row) (hr : row ≠ some (w.heap.size + 1 + 1)) (v0 v1 v2 v3 v4 : Value) :
    (((((Y.setCell ⟨w.heap.size + 1, 0, none⟩ v0).setCell ⟨w.heap.size + 1, 1, none⟩ v1).setCell ⟨w.heap.size + 1, 2, none⟩ v2).setCell ⟨w.heap.size + 1, 3, none⟩ v3).setCell ⟨w.heap.size + 1, 4, none⟩ v4).ownsMap Tryz.prog 9 unitElem (w.heap.size + 1 + 1) n D := by
  have h1 : Y.ownsMap Tryz.prog 9 unitElem (w.heap.size + 1 + 1) n D := ownsMap_kept h (gr.block _ (ownsMap_lt h) (fun e => hr e.symm))
  have hn : w.heap.size + 1 + 1 ≠ w.heap.size + 1 := by omega
  exact ((((h1.setCell hn _).setCell hn _).setCell hn _).setCell hn _).setCell hn _
end Go.Proofs.YteiomcbphbbpkaaGreatDoor
