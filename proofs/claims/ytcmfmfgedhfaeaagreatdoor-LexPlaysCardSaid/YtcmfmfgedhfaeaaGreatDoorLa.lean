/- What calls leave behind; a block of the call's own. -/
import Derived.Test.YtcmfmfgedhfaeaaGreatDoorRows
import Derived.Handy
import Derived.WalkLawsBesides
import Derived.WalkSpells
import Derived.Deep.Light
import Derived.Lib.Hide
import Derived.LoopTactic
import Derived.Deep.RegionHeld3
import Derived.Laws.NewBlocks
import Derived.StillTailTactics
namespace Go.Proofs.YtcmfmfgedhfaeaaGreatDoor
set_option linter.unusedSimpArgs false
set_option linter.unusedVariables false
open Go.RowKit

/-- Nothing that was there has turned. -/
structure Fresh (w w' : World) : Prop where
  below : Below w.heap.size w w'
theorem Fresh.refl (w : World) : Fresh w w := ⟨Below.refl _ _⟩
theorem Fresh.trans {a b c : World} (h : Fresh a b) (k : Fresh b c) : Fresh a c := ⟨h.below.trans (k.below.mono h.below.size)⟩
theorem Fresh.alloc {a w : World} (h : Fresh a w) (c : Array Value) (t : TypeId) : Fresh a (w.alloc (.cells c t)) := ⟨h.below.alloc h.below.size _⟩
theorem Fresh.obj {a w : World} (h : Fresh a w) (o : Obj) : Fresh a (w.alloc o) := ⟨h.below.alloc h.below.size _⟩
theorem Fresh.setCell {a w : World} (h : Fresh a w) {p : Addr} (hp : a.heap.size ≤ p.block) (v : Value) : Fresh a (w.setCell p v) := ⟨h.below.setCell hp v⟩
theorem Fresh.drew {a w : World} (h : Fresh a w) : Fresh a w.drew := ⟨h.below.drew⟩
theorem Fresh.drewN {a w : World} (h : Fresh a w) (n : Nat) : Fresh a (w.drewN n) := ⟨⟨h.below.os, h.below.tape, h.below.output, h.below.size, h.below.block⟩⟩
theorem Fresh.grown {a w w' : World} {row : Option Nat} (h : Fresh a w) (hg : w.grownBy w' row) (hr : ∀ k, row = some k → a.heap.size ≤ k) : Fresh a w' := ⟨h.below.grown hg h.below.size hr⟩
theorem Fresh.size {a w : World} (h : Fresh a w) : a.heap.size ≤ w.heap.size := h.below.size
theorem Fresh.z {X w1 : World} (h : Fresh X w1) {n : Nat} (hn : n < X.heap.size) : n < w1.heap.size := Nat.lt_of_lt_of_le hn h.size
theorem Fresh.cells {W w1 : World} (hb : Fresh W w1) : (∀ b o, b < W.heap.size → w1.cell? ⟨b, o, none⟩ = W.cell? ⟨b, o, none⟩) ∧ (∀ b o, b < W.heap.size → w1.frozen? ⟨b, o, none⟩ = W.frozen? ⟨b, o, none⟩) :=
  ⟨fun b o h => hb.below.cell (p := ⟨b, o, none⟩) h, fun b o h => hb.below.frozen (p := ⟨b, o, none⟩) h⟩
theorem Fresh.own {W w1 : World} (hb : Fresh W w1) {base : Nat} {e : TypeId} {size : Nat} {v : Value} {n : Nat} {xs : List Value} (h : W.ownsRow base e size v n xs) : w1.ownsRow base e size v n xs :=
  h.kept (row := none) ⟨hb.below.os, hb.below.tape, hb.below.output, hb.below.size, fun k hk _ => hb.below.block k hk⟩ (by cases hv : v.ownBlock <;> simp)
theorem cell_lt {w : World} {a : Addr} {v : Value} (h : w.cell? a = some v) : a.block < w.heap.size := by
  by_cases hh : a.block < w.heap.size
  · exact hh
  · have : w.heap[a.block]? = none := Array.getElem?_eq_none (by omega)
    simp [World.cell?, this] at h
theorem Fresh.at' {W w1 : World} (h : Fresh W w1) {B i : Nat} {v : Value} (hv : W.cell? ⟨B, i, none⟩ = some v) : w1.cell? ⟨B, i, none⟩ = some v := by rw [h.cells.1 B i (cell_lt hv), hv]
theorem Fresh.atA {W w1 : World} (h : Fresh W w1) {a : Addr} {v : Value} (hv : W.cell? a = some v) : w1.cell? a = some v := (h.below.cell (cell_lt hv)).trans hv
theorem ret_bool {a b : Bool} (h : b = a) : Ending.returned (.bool a) = Ending.returned (.bool b) := by rw [h]
theorem ret_int {k : IntKind} {a b : Int} (h : a = b) : Ending.returned (.int k a) = .returned (.int k b) := by rw [h]

/-- A block whose first cells hold these values, and that is not frozen. -/
def Blk (w : World) (b : Nat) (vs : List Value) : Prop := (∀ i v, vs[i]? = some v → w.cell? ⟨b, i, none⟩ = some v) ∧ (∀ o, w.frozen? ⟨b, o, none⟩ = false) ∧ b < w.heap.size
theorem Blk.fresh {w w' : World} {b : Nat} {vs : List Value} (h : Blk w b vs) (hf : Fresh w w') : Blk w' b vs :=
  ⟨fun i v hv => hf.at' (h.1 i v hv), fun o => (hf.cells.2 _ _ h.2.2).trans (h.2.1 o), hf.z h.2.2⟩
theorem Blk.new (w : World) (cs : Array Value) (t : TypeId) : Blk (w.alloc (.cells cs t)) w.heap.size cs.toList :=
  ⟨fun i v hv => by rw [World.cell?_alloc_at _ _ _ _ rfl]; simpa using hv, fun o => World.frozen?_alloc_at _ _ _ o (by simp), by simp⟩
end Go.Proofs.YtcmfmfgedhfaeaaGreatDoor
