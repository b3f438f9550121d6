/- Rows of numbers and rows of rows in memory. -/
import Derived.Test.YtlmlgdojmcmllaaRows
import Derived.Handy
import Derived.WalkLawsBesides
import Derived.WalkSpells
import Derived.Deep.Light
import Derived.Lib.Hide
import Derived.LoopTactic
import Derived.Deep.RegionHeld3
import Derived.Laws.NewBlocks
import Derived.StillTailTactics
import Derived.Deep.AppendLies
import Derived.Maps.AppendAt
import Derived.Deep.AppendSrc
import Derived.IntWalk
import Derived.Deep.QuietTactic
import Derived.BigQuiet
import Derived.Deep.DeepCutAuto
import Derived.Deep.CutRange
import Derived.Test.YtlmlgdojmcmllaaPd
import Derived.Outline
namespace Go.Proofs.Ytlmlgdojmcmllaa
set_option linter.unusedSimpArgs false
set_option linter.unusedVariables false
open Go.RowKit
open Solve

/-- Nothing that was there has turned. -/
structure Fresh (w w' : World) : Prop where
  below : Below w.heap.size w w'
theorem Fresh.refl (w : World) : Fresh w w := ⟨Below.refl _ _⟩
theorem Fresh.trans {a b c : World} (h : Fresh a b) (k : Fresh b c) : Fresh a c := ⟨h.below.trans (k.below.mono h.below.size)⟩
theorem Fresh.alloc {a w : World} (h : Fresh a w) (c : Array Value) (t : TypeId) : Fresh a (w.alloc (.cells c t)) := ⟨h.below.alloc h.below.size _⟩
theorem Fresh.setCell {a w : World} (h : Fresh a w) {p : Addr} (hp : a.heap.size ≤ p.block) (v : Value) : Fresh a (w.setCell p v) := ⟨h.below.setCell hp v⟩
theorem Fresh.drew {a w : World} (h : Fresh a w) : Fresh a w.drew := ⟨h.below.drew⟩
theorem Fresh.drewN {a w : World} (h : Fresh a w) (n : Nat) : Fresh a (w.drewN n) := ⟨⟨h.below.os, h.below.tape, h.below.output, h.below.size, h.below.block⟩⟩
theorem Fresh.grown {a w w' : World} {row : Option Nat} (h : Fresh a w) (hg : w.grownBy w' row) (hr : ∀ k, row = some k → a.heap.size ≤ k) : Fresh a w' := ⟨h.below.grown hg h.below.size hr⟩
theorem Fresh.size {a w : World} (h : Fresh a w) : a.heap.size ≤ w.heap.size := h.below.size
theorem Fresh.z {X w1 : World} (h : Fresh X w1) {n : Nat} (hn : n < X.heap.size) : n < w1.heap.size := Nat.lt_of_lt_of_le hn h.size
theorem Fresh.own {W w1 : World} (hb : Fresh W w1) {base : Nat} {e : TypeId} {size : Nat} {v : Value} {n : Nat} {xs : List Value} (h : W.ownsRow base e size v n xs) : w1.ownsRow base e size v n xs :=
  h.kept (row := none) ⟨hb.below.os, hb.below.tape, hb.below.output, hb.below.size, fun k hk _ => hb.below.block k hk⟩ (by cases hv : v.ownBlock <;> simp)
theorem cell_lt {w : World} {a : Addr} {v : Value} (h : w.cell? a = some v) : a.block < w.heap.size := by
  by_cases hh : a.block < w.heap.size
  · exact hh
  · have : w.heap[a.block]? = none := Array.getElem?_eq_none (by omega)
    simp [World.cell?, this] at h
theorem ret_bool {a b : Bool} (h : b = a) : Ending.returned (.bool a) = Ending.returned (.bool b) := by rw [h]
theorem ret_int {k : IntKind} {a b : Int} (h : a = b) : Ending.returned (.int k a) = .returned (.int k b) := by rw [h]

/-- The cells of some blocks stay. -/
def Sts (ok : Nat → Prop) (w w' : World) : Prop := ∀ b o v, ok b → w.cell? ⟨b, o, none⟩ = some v → w'.cell? ⟨b, o, none⟩ = some v
theorem Sts.trans {ok : Nat → Prop} {a b c : World} (h : Sts ok a b) (k : Sts ok b c) : Sts ok a c := fun _ _ _ hb hv => k _ _ _ hb (h _ _ _ hb hv)
theorem Fresh.sts {w w' : World} (h : Fresh w w') (ok : Nat → Prop) : Sts ok w w' := fun b o v _ hv => (h.below.cell (p := ⟨b, o, none⟩) (cell_lt hv)).trans hv
theorem sts_set (w : World) (g i : Nat) (v : Value) : Sts (· ≠ g) w (w.setCell ⟨g, i, none⟩ v) := fun b o u hb hu => by
  rw [World.cell?_setCell_other w _ _ v (fun e => hb (by injection e with e1; exact e1.symm))]; exact hu
theorem sts_grown {w w' : World} {row : Option Nat} (hg : w.grownBy w' row) : Sts (fun b => some b ≠ row) w w' := fun b o v hb hv =>
  (World.cell?_of_block (w := w) (a := ⟨b, o, none⟩) (hg.block b (cell_lt hv) hb)).trans hv

/-- A slice's value reads as this row of cells, its block one of those allowed. -/
def Row (ok : Nat → Prop) (w : World) (v : Value) (xs : List Value) : Prop :=
  ∃ p cap, v = .slice p xs.length cap ∧ (xs.length ≤ cap ∧ cap ≤ maxLen) ∧ (xs = [] ∨ ∃ B off, p = some ⟨B, off, none⟩ ∧ ok B ∧ ∀ i u, xs[i]? = some u → w.cell? ⟨B, off + i, none⟩ = some u)
theorem Row.sts {ok : Nat → Prop} {w w' : World} {v : Value} {xs : List Value} (h : Row ok w v xs) (hs : Sts ok w w') : Row ok w' v xs := by
  obtain ⟨p, cap, hv, hc, h⟩ := h
  refine ⟨p, cap, hv, hc, h.imp id ?_⟩
  rintro ⟨B, off, hp, hB, hh⟩
  exact ⟨B, off, hp, hB, fun i u hu => hs _ _ _ hB (hh i u hu)⟩
theorem Row.fresh {ok : Nat → Prop} {w w' : World} {v : Value} {xs : List Value} (h : Row ok w v xs) (hf : Fresh w w') : Row ok w' v xs := h.sts (hf.sts ok)
theorem Row.imp {ok ok' : Nat → Prop} {w : World} {v : Value} {xs : List Value} (h : Row ok w v xs) (hk : ∀ b, b < w.heap.size → ok b → ok' b) : Row ok' w v xs := by
  obtain ⟨p, cap, hv, hc, h⟩ := h
  rcases h with h | ⟨B, off, hp, hB, hh⟩
  · exact ⟨p, cap, hv, hc, Or.inl h⟩
  · cases xs with
    | nil => exact ⟨p, cap, hv, hc, Or.inl rfl⟩
    | cons x xs => exact ⟨p, cap, hv, hc, Or.inr ⟨B, off, hp, hk B (cell_lt (hh 0 x rfl)) hB, hh⟩⟩
theorem Row.nil (ok : Nat → Prop) (w : World) : Row ok w (.slice none 0 0) [] := ⟨none, 0, rfl, ⟨Nat.le_refl _, Nat.zero_le _⟩, Or.inl rfl⟩
/-- A row in a block that is known. -/
theorem Row.of_own {w : World} {base : Nat} {e : TypeId} {v : Value} {n : Nat} {xs : List Value} {ok : Nat → Prop} (h : w.ownsRow base e 1 v n xs) (hk : ∀ b, v.ownBlock = some b → ok b) : Row ok w v xs := by
  have hl : xs.length = n := by have := h.1; omega
  rcases h.2 with ⟨rfl, rfl⟩ | ⟨g, cap, cur, hv, hb, hg, hn, hm, hs, ht⟩
  · have : xs = [] := List.eq_nil_of_length_eq_zero hl
    subst this; exact Row.nil ok w
  · subst hv
    refine ⟨some ⟨g, 0, none⟩, cap, by rw [hl], ⟨by omega, hm⟩, Or.inr ⟨g, 0, rfl, hk g rfl, fun i u hu => ?_⟩⟩
    rw [cell_of_row w g (0 + i) cur e (0, 0) hg]
    rw [← ht] at hu
    have : cur.toList[i]? = some u := by
      rw [List.getElem?_take] at hu
      split at hu
      · exact hu
      · cases hu
    simpa using this
def nums (l : List Int) : List Value := l.map (Value.int .i64)
theorem nums_len (l : List Int) : (nums l).length = l.length := by simp [nums]
theorem nums_at (l : List Int) (i : Nat) (h : i < l.length) : (nums l)[i]? = some (.int .i64 (l.getD i 0)) := by
  simp [nums, List.getD, h]
theorem nums_app (a b : List Int) : nums (a ++ b) = nums a ++ nums b := by simp [nums]
theorem nums_one (l : List Int) : ∀ u ∈ nums l, u.oneCell' = true := fun u hu => by
  obtain ⟨_, _, rfl⟩ := List.mem_map.1 hu
  rfl
/-- A row of numbers. -/
def Ints (ok : Nat → Prop) (w : World) (v : Value) (l : List Int) : Prop := Row ok w v (nums l)
theorem Ints.sts {ok : Nat → Prop} {w w' : World} {v : Value} {l : List Int} (h : Ints ok w v l) (hs : Sts ok w w') : Ints ok w' v l := Row.sts h hs
theorem Ints.fresh {ok : Nat → Prop} {w w' : World} {v : Value} {l : List Int} (h : Ints ok w v l) (hf : Fresh w w') : Ints ok w' v l := Row.fresh h hf
theorem Ints.imp {ok ok' : Nat → Prop} {w : World} {v : Value} {l : List Int} (h : Ints ok w v l) (hk : ∀ b, b < w.heap.size → ok b → ok' b) : Ints ok' w v l := Row.imp h hk
/-- What a row of numbers looks like. -/
theorem Ints.form {ok : Nat → Prop} {w : World} {v : Value} {l : List Int} (h : Ints ok w v l) : ∃ p cap, v = .slice p l.length cap ∧ (l.length ≤ cap ∧ cap ≤ maxLen) ∧
    ∀ i, i < l.length → ∃ B off, p = some ⟨B, off, none⟩ ∧ ok B ∧ w.cell? ⟨B, off + i, none⟩ = some (.int .i64 (l.getD i 0)) := by
  obtain ⟨p, cap, hv, hc, h⟩ := h
  rw [nums_len] at hv hc
  refine ⟨p, cap, hv, hc, fun i hi => ?_⟩
  rcases h with h | ⟨B, off, hp, hB, hh⟩
  · have := nums_len l; rw [h] at this; simp at this; omega
  · exact ⟨B, off, hp, hB, hh i _ (nums_at l i hi)⟩
/-- A row of rows: the outer one in an allowed block, the inner ones in others. -/
def Rows2 (ok ok' : Nat → Prop) (w : World) (v : Value) (g : Graph) : Prop :=
  ∃ vs : List Value, vs.length = g.length ∧ Row ok w v vs ∧ ∀ i u, vs[i]? = some u → Ints ok' w u (row g i)
theorem Rows2.sts {ok ok' : Nat → Prop} {w w' : World} {v : Value} {g : Graph} (h : Rows2 ok ok' w v g) (hs : Sts ok w w') (hs' : Sts ok' w w') : Rows2 ok ok' w' v g := by
  obtain ⟨vs, hl, hr, hh⟩ := h
  exact ⟨vs, hl, hr.sts hs, fun i u hu => (hh i u hu).sts hs'⟩
theorem Rows2.fresh {ok ok' : Nat → Prop} {w w' : World} {v : Value} {g : Graph} (h : Rows2 ok ok' w v g) (hf : Fresh w w') : Rows2 ok ok' w' v g := h.sts (hf.sts _) (hf.sts _)
theorem Rows2.imp {ok ok' a b : Nat → Prop} {w : World} {v : Value} {g : Graph} (h : Rows2 ok ok' w v g) (hk : ∀ c, c < w.heap.size → ok c → a c) (hk' : ∀ c, c < w.heap.size → ok' c → b c) : Rows2 a b w v g := by
  obtain ⟨vs, hl, hr, hh⟩ := h
  exact ⟨vs, hl, hr.imp hk, fun i u hu => (hh i u hu).imp hk'⟩
theorem Rows2.form {ok ok' : Nat → Prop} {w : World} {v : Value} {g : Graph} (h : Rows2 ok ok' w v g) : ∃ p cap, v = .slice p g.length cap ∧ (g.length ≤ cap ∧ cap ≤ maxLen) ∧
    ∀ i, i < g.length → ∃ B off u, p = some ⟨B, off, none⟩ ∧ ok B ∧ w.cell? ⟨B, off + i, none⟩ = some u ∧ Ints ok' w u (row g i) := by
  obtain ⟨vs, hl, ⟨p, cap, hv, hc, hr⟩, hh⟩ := h
  rw [hl] at hv hc
  refine ⟨p, cap, hv, hc, fun i hi => ?_⟩
  have hx : vs[i]? = some (vs[i]'(by omega)) := List.getElem?_eq_getElem (by omega)
  rcases hr with h | ⟨B, off, hp, hB, hr⟩
  · rw [h] at hl; simp at hl; omega
  · exact ⟨B, off, _, hp, hB, hr i _ hx, hh i _ hx⟩
/-- A row of rows of the call's own: the outer block known whole. -/
structure Mat (w : World) (b : Nat) (t : TypeId) (vs : List Value) (g : Graph) : Prop where
  len : vs.length = g.length
  blk : w.heap[b]? = some (.cells vs.toArray t (0, 0))
  at' : ∀ i u, vs[i]? = some u → Ints (· ≠ b) w u (row g i)
theorem Mat.lt {w : World} {b : Nat} {t : TypeId} {vs : List Value} {g : Graph} (h : Mat w b t vs g) : b < w.heap.size := by
  rcases Nat.lt_or_ge b w.heap.size with hlt | hge
  · exact hlt
  · have := h.blk; rw [Array.getElem?_eq_none hge] at this; cases this
theorem Mat.fresh {w w' : World} {b : Nat} {t : TypeId} {vs : List Value} {g : Graph} (h : Mat w b t vs g) (hf : Fresh w w') : Mat w' b t vs g :=
  ⟨h.len, (hf.below.block b h.lt).trans h.blk, fun i u hu => (h.at' i u hu).fresh hf⟩
theorem Mat.cell {w : World} {b : Nat} {t : TypeId} {vs : List Value} {g : Graph} (h : Mat w b t vs g) {i : Nat} (hi : i < g.length) : ∃ u, w.cell? ⟨b, i, none⟩ = some u ∧ vs[i]? = some u ∧ Ints (· ≠ b) w u (row g i) := by
  have hx : vs[i]? = some (vs[i]'(by rw [h.len]; exact hi)) := List.getElem?_eq_getElem (by rw [h.len]; exact hi)
  refine ⟨_, ?_, hx, h.at' i _ hx⟩
  rw [cell_of_row w b i _ t (0, 0) h.blk]; simp
theorem Mat.frozen {w : World} {b : Nat} {t : TypeId} {vs : List Value} {g : Graph} (h : Mat w b t vs g) (i : Nat) : w.frozen? ⟨b, i, none⟩ = false := by
  have := h.blk
  simp [World.frozen?, this]
theorem Mat.set {w : World} {b : Nat} {t : TypeId} {vs : List Value} {g : Graph} (h : Mat w b t vs g) {i : Nat} (hi : i < g.length) {u : Value} {l : List Int} (hu : Ints (· ≠ b) w u l) :
    Mat (w.setCell ⟨b, i, none⟩ u) b t (vs.set i u) (g.set i l) := by
  refine ⟨by simp [h.len], ?_, fun j x hx => ?_⟩
  · have := h.blk
    simp [World.setCell, Array.getElem?_modify, this]
  · rw [row_set hi]
    rw [List.getElem?_set] at hx
    by_cases e : i = j
    · subst e
      have hl := h.len
      rw [if_pos rfl, if_pos (by omega)] at hx
      obtain rfl : u = x := by injection hx
      rw [if_pos rfl]
      exact hu.sts (sts_set _ _ _ _)
    · rw [if_neg e] at hx
      rw [if_neg (fun h => e h.symm)]
      exact (h.at' j x hx).sts (sts_set _ _ _ _)
theorem Mat.rows {w : World} {b : Nat} {t : TypeId} {vs : List Value} {g : Graph} (h : Mat w b t vs g) (cap : Nat) (hc : g.length ≤ cap ∧ cap ≤ maxLen) : Rows2 (· = b) (· ≠ b) w (.slice (some ⟨b, 0, none⟩) g.length cap) g := by
  refine ⟨vs, h.len, ⟨_, cap, by rw [h.len], by rw [h.len]; exact hc, Or.inr ⟨b, 0, rfl, rfl, fun i u hu => ?_⟩⟩, h.at'⟩
  rw [cell_of_row w b (0 + i) _ t (0, 0) h.blk]; simpa using hu
theorem Mat.new (w : World) (t : TypeId) (n : Nat) : Mat (w.alloc (.cells (List.replicate n (.slice none 0 0)).toArray t)) w.heap.size t (List.replicate n (.slice none 0 0)) (List.replicate n []) := by
  refine ⟨by simp, heap_alloc_new w _, fun i u hu => ?_⟩
  rw [row_rep]
  have : u = .slice none 0 0 := by
    rw [List.getElem?_replicate] at hu
    split at hu
    · injection hu with hu; exact hu.symm
    · cases hu
  subst this
  exact Row.nil _ _
/-- A row of marks of the call's own. -/
def marks (b : List Bool) : List Value := b.map Value.bool
structure Mrk (w : World) (g : Nat) (t : TypeId) (b : List Bool) : Prop where
  blk : w.heap[g]? = some (.cells (marks b).toArray t (0, 0))
theorem Mrk.lt {w : World} {g : Nat} {t : TypeId} {b : List Bool} (h : Mrk w g t b) : g < w.heap.size := by
  rcases Nat.lt_or_ge g w.heap.size with hlt | hge
  · exact hlt
  · have := h.blk; rw [Array.getElem?_eq_none hge] at this; cases this
theorem Mrk.fresh {w w' : World} {g : Nat} {t : TypeId} {b : List Bool} (h : Mrk w g t b) (hf : Fresh w w') : Mrk w' g t b := ⟨(hf.below.block g h.lt).trans h.blk⟩
theorem Mrk.cell {w : World} {g : Nat} {t : TypeId} {b : List Bool} (h : Mrk w g t b) {i : Nat} (hi : i < b.length) : w.cell? ⟨g, i, none⟩ = some (.bool (flag b i)) := by
  rw [cell_of_row w g i _ t (0, 0) h.blk]; simp [marks, flag, List.getD, hi]
theorem Mrk.frozen {w : World} {g : Nat} {t : TypeId} {b : List Bool} (h : Mrk w g t b) (i : Nat) : w.frozen? ⟨g, i, none⟩ = false := by
  have := h.blk
  simp [World.frozen?, this]
theorem Mrk.set {w : World} {g : Nat} {t : TypeId} {b : List Bool} (h : Mrk w g t b) (i : Nat) (x : Bool) : Mrk (w.setCell ⟨g, i, none⟩ (.bool x)) g t (b.set i x) := by
  refine ⟨?_⟩
  have := h.blk
  simp [World.setCell, Array.getElem?_modify, this, marks, List.map_set]
theorem Mrk.new (w : World) (t : TypeId) (n : Nat) : Mrk (w.alloc (.cells (List.replicate n (.bool false)).toArray t)) w.heap.size t (List.replicate n false) := ⟨by
  have := heap_alloc_new w (.cells (List.replicate n (.bool false)).toArray t)
  rw [this]; simp [marks]⟩
end Go.Proofs.Ytlmlgdojmcmllaa
