/- What a call may turn, and a block with all that it leads to. -/
import Derived.Test.YtjbflmpnmobngaaMg
namespace Go.Proofs.Ytjbflmpnmobngaa
set_option linter.unusedSimpArgs false
set_option linter.unusedVariables false
open Go.RowKit

/-- Of what was there only blocks of F have turned. -/
structure Touch (F : Nat → Prop) (w w' : World) : Prop where
  os : w'.os = w.os
  tape : w'.tape = w.tape
  output : w'.output = w.output
  size : w.heap.size ≤ w'.heap.size
  block : ∀ k, k < w.heap.size → ¬ F k → w'.heap[k]? = w.heap[k]?
  froz : ∀ a, w'.frozen? a = w.frozen? a
theorem Touch.refl (F : Nat → Prop) (w : World) : Touch F w w := ⟨rfl, rfl, rfl, Nat.le_refl _, fun _ _ _ => rfl, fun _ => rfl⟩
theorem Fresh.touch {w w' : World} (h : Fresh w w') (F : Nat → Prop) : Touch F w w' := ⟨h.below.os, h.below.tape, h.below.output, h.below.size, fun k hk _ => h.below.block k hk, h.froz⟩
theorem Touch.trans {F : Nat → Prop} {a b c : World} (h : Touch F a b) (k : Touch F b c) : Touch F a c :=
  ⟨k.os.trans h.os, k.tape.trans h.tape, k.output.trans h.output, Nat.le_trans h.size k.size, fun i hi hn => (k.block i (Nat.lt_of_lt_of_le hi h.size) hn).trans (h.block i hi hn), fun x => (k.froz x).trans (h.froz x)⟩
/-- What is new may be turned, too. -/
theorem Touch.trans' {F G : Nat → Prop} {a b c : World} (h : Touch F a b) (k : Touch G b c) (hg : ∀ x, G x → F x ∨ a.heap.size ≤ x) : Touch F a c :=
  ⟨k.os.trans h.os, k.tape.trans h.tape, k.output.trans h.output, Nat.le_trans h.size k.size, fun i hi hn => (k.block i (Nat.lt_of_lt_of_le hi h.size) (fun g => by rcases hg i g with q | q; exact hn q; omega)).trans (h.block i hi hn), fun x => (k.froz x).trans (h.froz x)⟩
theorem Touch.mono {F G : Nat → Prop} {a b : World} (h : Touch F a b) (hg : ∀ x, F x → G x) : Touch G a b := ⟨h.os, h.tape, h.output, h.size, fun i hi hn => h.block i hi (fun f => hn (hg i f)), h.froz⟩
theorem Touch.alloc {F : Nat → Prop} {a w : World} (h : Touch F a w) (c : Array Value) (t : TypeId) : Touch F a (w.alloc (.cells c t)) := h.trans (((Fresh.refl w).alloc c t).touch F)
theorem Touch.drew {F : Nat → Prop} {a w : World} (h : Touch F a w) : Touch F a w.drew := h.trans ((Fresh.refl w).drew.touch F)
theorem Touch.fresh {F : Nat → Prop} {a b c : World} (h : Touch F a b) (k : Fresh b c) : Touch F a c := h.trans (k.touch F)
theorem Touch.setCell {F : Nat → Prop} {a w : World} (h : Touch F a w) {p : Addr} (hp : F p.block ∨ a.heap.size ≤ p.block) (v : Value) : Touch F a (w.setCell p v) := by
  refine h.trans' (G := fun k => k = p.block) ⟨rfl, rfl, rfl, by simp [World.setCell], fun k hk hn => Below.heap_setCell _ _ _ _ hn, fun x => by simp [go_sem]⟩ (fun x hx => by subst hx; exact hp)
theorem Touch.turned {F : Nat → Prop} {a w w' : World} {b : Nat} (h : Touch F a w) (ht : w.mapTurned w' b) (hb : F b ∨ a.heap.size ≤ b) : Touch F a w' :=
  h.trans' (G := fun k => k = b) ⟨ht.grown.os, ht.grown.tape, ht.grown.output, ht.grown.size, fun k hk hn => ht.grown.block k hk (by simpa using hn), fun x => ht.frozen x⟩ (fun x hx => by subst hx; exact hb)
theorem Touch.cellOf {F : Nat → Prop} {w w' : World} (h : Touch F w w') {a : Addr} {v : Value} (hn : ¬ F a.block) (hc : w.cell? a = some v) : w'.cell? a = some v := by
  rw [World.cell?_of_block (w := w) (w' := w') (h.block a.block (cell_lt hc) hn), hc]
theorem Touch.fresh_of {F : Nat → Prop} {W a b : World} (h : Fresh W a) (k : Touch F a b) (hF : ∀ x, F x → W.heap.size ≤ x) : Fresh W b :=
  ⟨⟨k.os.trans h.below.os, k.tape.trans h.below.tape, k.output.trans h.below.output, Nat.le_trans h.size k.size, fun i hi =>
    (k.block i (Nat.lt_of_lt_of_le hi h.size) (fun f => by have := hF i f; omega)).trans (h.below.block i hi)⟩, fun x => (k.froz x).trans (h.froz x)⟩

def owns (B : Nat) (pg pt : Option Nat) (row : Int → Option Nat) (k : Nat) : Prop := k = B ∨ pg = some k ∨ pt = some k ∨ ∃ p, row p = some k
/-- What keeps the parts of a block apart. -/
structure Sep (w : World) (B : Nat) (pg pt : Option Nat) (row : Int → Option Nat) : Prop where
  rB : ∀ p r, row p = some r → r ≠ B
  rr : ∀ p p' r, row p = some r → row p' = some r → p = p'
  pp : ∀ q, pg = some q → pt ≠ some q
  rl : ∀ p r, row p = some r → r < w.heap.size ∧ (∃ c t f, w.heap[r]? = some (.cells c t f))
  fr : ∀ k, owns B pg pt row k → ∀ o, w.frozen? ⟨k, o, none⟩ = false
  rp : ∀ p r, row p = some r → 0 ≤ p ∧ pg ≠ none
/-- A block with all that it leads to; own: the heap's blocks that are its own; T: a bound on its maps' entries. -/
def Blk (w : World) (B : Nat) (sz : Int) (fx : Bool) (cell : Nat → Int) (ptr : Int → Option (Int × Int × Int)) (T : Nat) (own : Nat → Prop) : Prop :=
  ∃ pg pt row n1 n2, BRep w B sz fx pg pt n1 n2 row cell ptr ∧ Sep w B pg pt row ∧ n1 ≤ T ∧ n2 ≤ T ∧ ∀ k, own k ↔ owns B pg pt row k
variable {w w' : World} {B : Nat} {sz : Int} {fx : Bool} {pg pt : Option Nat} {n1 n2 T : Nat} {row : Int → Option Nat} {cell : Nat → Int} {ptr : Int → Option (Int × Int × Int)} {own : Nat → Prop}
theorem MapO.kept {o : Option Nat} {n : Nat} {f : Int → Option Value} (h : MapO w o n f) (hk : ∀ b, o = some b → w'.heap[b]? = w.heap[b]?) : MapO w' o n f := by
  cases o with
  | none => exact h
  | some b => exact MapF.block h (hk b rfl)
theorem cell_kept {a : Addr} {v : Value} (h : w.cell? a = some v) (hk : w'.heap[a.block]? = w.heap[a.block]?) : w'.cell? a = some v := by
  rw [World.cell?_of_block hk, h]
theorem BRep.kept (h : BRep w B sz fx pg pt n1 n2 row cell ptr) (hk : ∀ k, owns B pg pt row k → w'.heap[k]? = w.heap[k]?) : BRep w' B sz fx pg pt n1 n2 row cell ptr :=
  ⟨cell_kept h.c0 (hk B (Or.inl rfl)), cell_kept h.c1 (hk B (Or.inl rfl)), cell_kept h.c2 (hk B (Or.inl rfl)), cell_kept h.c3 (hk B (Or.inl rfl)), h.s0, h.s1,
    h.pgs.kept fun b hb => hk b (Or.inr (Or.inl hb)), h.pts.kept fun b hb => hk b (Or.inr (Or.inr (Or.inl hb))),
    fun p r hr i hi => cell_kept (h.rws p r hr i hi) (hk r (Or.inr (Or.inr (Or.inr ⟨p, hr⟩)))), h.non, h.rng⟩
theorem Sep.kept (h : Sep w B pg pt row) (hk : ∀ k, owns B pg pt row k → w'.heap[k]? = w.heap[k]?) (hs : w.heap.size ≤ w'.heap.size) : Sep w' B pg pt row :=
  ⟨h.rB, h.rr, h.pp, fun p r hr => ⟨Nat.lt_of_lt_of_le (h.rl p r hr).1 hs, by rw [hk r (Or.inr (Or.inr (Or.inr ⟨p, hr⟩)))]; exact (h.rl p r hr).2⟩,
    fun k ho o => by rw [World.frozen?_of_block (w := w) (hk k ho)]; exact h.fr k ho o, h.rp⟩
theorem Blk.kept (h : Blk w B sz fx cell ptr T own) (hk : ∀ k, own k → w'.heap[k]? = w.heap[k]?) (hs : w.heap.size ≤ w'.heap.size) : Blk w' B sz fx cell ptr T own := by
  obtain ⟨pg, pt, row, n1, n2, hR, hS, h1, h2, ho⟩ := h
  exact ⟨pg, pt, row, n1, n2, hR.kept fun k q => hk k ((ho k).2 q), hS.kept (fun k q => hk k ((ho k).2 q)) hs, h1, h2, ho⟩
theorem map_lt {b : Nat} {es : Array MapEntry} {c : Nat} (h : w.heap[b]? = some (.map es c)) : b < w.heap.size := (Array.getElem?_eq_some_iff.1 h).1
theorem MapO.lt {o : Option Nat} {n : Nat} {f : Int → Option Value} (h : MapO w o n f) {b : Nat} (hb : o = some b) : b < w.heap.size := by
  subst hb; exact MapF.lt h
theorem owns_lt (h : BRep w B sz fx pg pt n1 n2 row cell ptr) (hS : Sep w B pg pt row) {k : Nat} (hk : owns B pg pt row k) : k < w.heap.size := by
  rcases hk with rfl | hk | hk | ⟨p, hk⟩
  · exact cell_lt h.c0
  · exact h.pgs.lt hk
  · exact h.pts.lt hk
  · exact (hS.rl p k hk).1
theorem Blk.lt (h : Blk w B sz fx cell ptr T own) {k : Nat} (hk : own k) : k < w.heap.size := by
  obtain ⟨pg, pt, row, n1, n2, hR, hS, h1, h2, ho⟩ := h
  exact owns_lt hR hS ((ho k).1 hk)
theorem Blk.later (h : Blk w B sz fx cell ptr T own) (hf : Fresh w w') : Blk w' B sz fx cell ptr T own :=
  h.kept (fun k hk => hf.below.block k (h.lt hk)) hf.size
theorem Blk.touched {F : Nat → Prop} (h : Blk w B sz fx cell ptr T own) (hf : Touch F w w') (hn : ∀ k, own k → ¬ F k) : Blk w' B sz fx cell ptr T own :=
  h.kept (fun k hk => hf.block k (h.lt hk) (hn k hk)) hf.size
/-- A block's maps and its rows of cells are not one. -/
theorem map_ne_cell {b : Nat} {es : Array MapEntry} {c : Nat} {a : Addr} {v : Value} (h : w.heap[b]? = some (.map es c)) (hc : w.cell? a = some v) : b ≠ a.block := by
  intro e; subst e; simp [World.cell?, h] at hc
theorem MapF.ne {n : Nat} {f : Int → Option Value} {b : Nat} (h : MapF Try.prog 3 w b n f) {a : Addr} {v : Value} (hc : w.cell? a = some v) : b ≠ a.block := by
  obtain ⟨D, ⟨es, c, hb, _⟩, _⟩ := h; exact map_ne_cell hb hc
theorem MapF.ne_row {n : Nat} {f : Int → Option Value} {b r : Nat} (h : MapF Try.prog 3 w b n f) (hr : ∃ c t f, w.heap[r]? = some (.cells c t f)) : b ≠ r := by
  obtain ⟨D, ⟨es, c, hb, _⟩, _⟩ := h
  obtain ⟨c', t, f', hr⟩ := hr
  intro e; subst e; rw [hb] at hr; cases hr
end Go.Proofs.Ytjbflmpnmobngaa
