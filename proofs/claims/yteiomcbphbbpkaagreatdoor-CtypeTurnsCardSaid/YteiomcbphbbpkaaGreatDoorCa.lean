/- What calls leave behind; types of the source in memory: a header of six cells, and the row of its parts; the forms by their names. -/
import Derived.Test.YteiomcbphbbpkaaGreatDoorRows
import Derived.Handy
import Derived.WalkLawsBesides
import Derived.WalkSpells
import Derived.Deep.Light
import Derived.Lib.Hide
import Derived.LoopTactic
import Derived.Deep.RegionHeld3
import Derived.Laws.NewBlocks
import Derived.StillTailTactics
namespace Go.Proofs.YteiomcbphbbpkaaGreatDoor
set_option linter.unusedSimpArgs false
set_option linter.unusedVariables false
open Go.RowKit

/-- Nothing that was there has turned. -/
structure Fresh (w w' : World) : Prop where
  below : Below w.heap.size w w'
theorem Fresh.refl (w : World) : Fresh w w := ⟨Below.refl _ _⟩
theorem Fresh.trans {a b c : World} (h : Fresh a b) (k : Fresh b c) : Fresh a c := ⟨h.below.trans (k.below.mono h.below.size)⟩
theorem Fresh.alloc {a w : World} (h : Fresh a w) (c : Array Value) (t : TypeId) : Fresh a (w.alloc (.cells c t)) := ⟨h.below.alloc h.below.size _⟩
theorem Fresh.obj {a w : World} (h : Fresh a w) (o : Obj) : Fresh a (w.alloc o) := ⟨h.below.alloc h.below.size _⟩
theorem Fresh.setCell {a w : World} (h : Fresh a w) {p : Addr} (hp : a.heap.size ≤ p.block) (v : Value) : Fresh a (w.setCell p v) := ⟨h.below.setCell hp v⟩
theorem Fresh.drew {a w : World} (h : Fresh a w) : Fresh a w.drew := ⟨h.below.drew⟩
theorem Fresh.drewN {a w : World} (h : Fresh a w) (n : Nat) : Fresh a (w.drewN n) := ⟨⟨h.below.os, h.below.tape, h.below.output, h.below.size, h.below.block⟩⟩
theorem Fresh.grown {a w w' : World} {row : Option Nat} (h : Fresh a w) (hg : w.grownBy w' row) (hr : ∀ k, row = some k → a.heap.size ≤ k) : Fresh a w' := ⟨h.below.grown hg h.below.size hr⟩
theorem Fresh.size {a w : World} (h : Fresh a w) : a.heap.size ≤ w.heap.size := h.below.size
theorem Fresh.z {X w1 : World} (h : Fresh X w1) {n : Nat} (hn : n < X.heap.size) : n < w1.heap.size := Nat.lt_of_lt_of_le hn h.size
theorem Fresh.cells {W w1 : World} (hb : Fresh W w1) : (∀ b o, b < W.heap.size → w1.cell? ⟨b, o, none⟩ = W.cell? ⟨b, o, none⟩) ∧ (∀ b o, b < W.heap.size → w1.frozen? ⟨b, o, none⟩ = W.frozen? ⟨b, o, none⟩) :=
  ⟨fun b o h => hb.below.cell (p := ⟨b, o, none⟩) h, fun b o h => hb.below.frozen (p := ⟨b, o, none⟩) h⟩
theorem Fresh.own {W w1 : World} (hb : Fresh W w1) {base : Nat} {e : TypeId} {size : Nat} {v : Value} {n : Nat} {xs : List Value} (h : W.ownsRow base e size v n xs) : w1.ownsRow base e size v n xs :=
  h.kept (row := none) ⟨hb.below.os, hb.below.tape, hb.below.output, hb.below.size, fun k hk _ => hb.below.block k hk⟩ (by cases hv : v.ownBlock <;> simp)
theorem cell_lt {w : World} {a : Addr} {v : Value} (h : w.cell? a = some v) : a.block < w.heap.size := by
  by_cases hh : a.block < w.heap.size
  · exact hh
  · have : w.heap[a.block]? = none := Array.getElem?_eq_none (by omega)
    simp [World.cell?, this] at h
theorem Fresh.at' {W w1 : World} (h : Fresh W w1) {B i : Nat} {v : Value} (hv : W.cell? ⟨B, i, none⟩ = some v) : w1.cell? ⟨B, i, none⟩ = some v := by rw [h.cells.1 B i (cell_lt hv), hv]
theorem Fresh.atA {W w1 : World} (h : Fresh W w1) {a : Addr} {v : Value} (hv : W.cell? a = some v) : w1.cell? a = some v := (h.below.cell (cell_lt hv)).trans hv
theorem ret_bool {a b : Bool} (h : b = a) : Ending.returned (.bool a) = Ending.returned (.bool b) := by rw [h]
theorem ret_int {k : IntKind} {a b : Int} (h : a = b) : Ending.returned (.int k a) = .returned (.int k b) := by rw [h]

/-- A block whose first cells hold these values, and that is not frozen. -/
def Blk (w : World) (b : Nat) (vs : List Value) : Prop := (∀ i v, vs[i]? = some v → w.cell? ⟨b, i, none⟩ = some v) ∧ (∀ o, w.frozen? ⟨b, o, none⟩ = false) ∧ b < w.heap.size
theorem Blk.fresh {w w' : World} {b : Nat} {vs : List Value} (h : Blk w b vs) (hf : Fresh w w') : Blk w' b vs :=
  ⟨fun i v hv => hf.at' (h.1 i v hv), fun o => (hf.cells.2 _ _ h.2.2).trans (h.2.1 o), hf.z h.2.2⟩
theorem Blk.new (w : World) (cs : Array Value) (t : TypeId) : Blk (w.alloc (.cells cs t)) w.heap.size cs.toList :=
  ⟨fun i v hv => by rw [World.cell?_alloc_at _ _ _ _ rfl]; simpa using hv, fun o => World.frozen?_alloc_at _ _ _ o (by simp), by simp⟩
/-- The first six of them. -/
structure B6 (w : World) (b : Nat) (v0 v1 v2 v3 v4 v5 : Value) : Prop where
  c0 : w.cell? ⟨b, 0, none⟩ = some v0
  c1 : w.cell? ⟨b, 1, none⟩ = some v1
  c2 : w.cell? ⟨b, 2, none⟩ = some v2
  c3 : w.cell? ⟨b, 3, none⟩ = some v3
  c4 : w.cell? ⟨b, 4, none⟩ = some v4
  c5 : w.cell? ⟨b, 5, none⟩ = some v5
  f : ∀ o, w.frozen? ⟨b, o, none⟩ = false
theorem Blk.six {w : World} {b : Nat} {v0 v1 v2 v3 v4 v5 : Value} {vs : List Value} (h : Blk w b (v0 :: v1 :: v2 :: v3 :: v4 :: v5 :: vs)) : B6 w b v0 v1 v2 v3 v4 v5 :=
  ⟨h.1 0 _ rfl, h.1 1 _ rfl, h.1 2 _ rfl, h.1 3 _ rfl, h.1 4 _ rfl, h.1 5 _ rfl, h.2.1⟩
theorem B6.fresh {w w' : World} {b : Nat} {v0 v1 v2 v3 v4 v5 : Value} (h : B6 w b v0 v1 v2 v3 v4 v5) (hf : Fresh w w') : B6 w' b v0 v1 v2 v3 v4 v5 :=
  ⟨hf.at' h.c0, hf.at' h.c1, hf.at' h.c2, hf.at' h.c3, hf.at' h.c4, hf.at' h.c5, fun o => (hf.cells.2 _ _ (cell_lt h.c0)).trans (h.f o)⟩

/-- A type's own part. -/
structure Hd where
  kind : Int
  size : Int
  len : Int
  flag : Bool
  name : ByteArray
/-- Rows of types: a type's own part, the row of its parts, what follows. -/
inductive Tys
  | nil
  | cons (h : Hd) (kids rest : Tys)
def Tys.length : Tys → Nat
  | .nil => 0
  | .cons _ _ r => r.length + 1
/-- The row lies at a place: six cells each. -/
def Tys.row (ok : Nat → Prop) (w : World) : Tys → Nat → Nat → Prop
  | .nil, _, _ => True
  | .cons h ks r, B, off => ok B ∧ (∃ p n cap, (w.cell? ⟨B, off, none⟩ = some (.int .i64 h.kind) ∧ w.cell? ⟨B, off + 1, none⟩ = some (.int .i64 h.size) ∧ w.cell? ⟨B, off + 2, none⟩ = some (.int .i64 h.len) ∧
      w.cell? ⟨B, off + 3, none⟩ = some (.bool h.flag) ∧ w.cell? ⟨B, off + 4, none⟩ = some (.string h.name) ∧ w.cell? ⟨B, off + 5, none⟩ = some (.slice p n cap)) ∧
      n = ks.length ∧ n ≤ cap ∧ cap ≤ maxLen ∧ ((p = none ∧ n = 0 ∧ cap = 0) ∨ ∃ B' off', p = some ⟨B', off', none⟩ ∧ ks.row ok w B' off')) ∧ r.row ok w B (off + 6)
/-- A slice that holds a row. -/
def Kids (ok : Nat → Prop) (w : World) (ks : Tys) (p : Option Addr) (n cap : Nat) : Prop :=
  n = ks.length ∧ n ≤ cap ∧ cap ≤ maxLen ∧ ((p = none ∧ n = 0 ∧ cap = 0) ∨ ∃ B off, p = some ⟨B, off, none⟩ ∧ ks.row ok w B off)
variable {ok : Nat → Prop}
theorem Tys.row.turn {ok' : Nat → Prop} {w w' : World} (hf : ∀ B i v, ok B → w.cell? ⟨B, i, none⟩ = some v → w'.cell? ⟨B, i, none⟩ = some v) (ho : ∀ B, B < w.heap.size → ok B → ok' B) : ∀ {ks : Tys} {B off : Nat}, ks.row ok w B off → ks.row ok' w' B off
  | .nil, _, _, _ => trivial
  | .cons h ks r, B, off, hh => by
    obtain ⟨hB, ⟨p, n, cap, ⟨c0, c1, c2, c3, c4, c5⟩, hn, hc, hm, hk⟩, hr⟩ := hh
    refine ⟨ho B (cell_lt c0) hB, ⟨p, n, cap, ⟨hf _ _ _ hB c0, hf _ _ _ hB c1, hf _ _ _ hB c2, hf _ _ _ hB c3, hf _ _ _ hB c4, hf _ _ _ hB c5⟩, hn, hc, hm, ?_⟩, Tys.row.turn hf ho hr⟩
    rcases hk with hk | ⟨B', off', hp, hk⟩
    · exact Or.inl hk
    · exact Or.inr ⟨B', off', hp, Tys.row.turn hf ho hk⟩
theorem Kids.turn {ok' : Nat → Prop} {w w' : World} {ks : Tys} {p : Option Addr} {n cap : Nat} (h : Kids ok w ks p n cap) (hf : ∀ B i v, ok B → w.cell? ⟨B, i, Option.none⟩ = some v → w'.cell? ⟨B, i, Option.none⟩ = some v) (ho : ∀ B, B < w.heap.size → ok B → ok' B) : Kids ok' w' ks p n cap := by
  obtain ⟨a, b, c, d⟩ := h
  refine ⟨a, b, c, ?_⟩
  rcases d with d | ⟨B, off, hp, hk⟩
  · exact Or.inl d
  · exact Or.inr ⟨B, off, hp, hk.turn hf ho⟩
theorem Tys.row.later {w w' : World} (hf : Fresh w w') {ks : Tys} {B off : Nat} (h : ks.row ok w B off) : ks.row ok w' B off := h.turn (fun _ _ _ _ hv => hf.at' hv) (fun _ _ h => h)
theorem Kids.later {w w' : World} {ks : Tys} {p : Option Addr} {n cap : Nat} (h : Kids ok w ks p n cap) (hf : Fresh w w') : Kids ok w' ks p n cap := h.turn (fun _ _ _ _ hv => hf.at' hv) (fun _ _ h => h)
theorem Kids.mono {ok' : Nat → Prop} {w : World} {ks : Tys} {p : Option Addr} {n cap : Nat} (h : Kids ok w ks p n cap) (ho : ∀ B, B < w.heap.size → ok B → ok' B) : Kids ok' w ks p n cap := h.turn (fun _ _ _ _ hv => hv) ho
theorem Kids.set {w : World} {ks : Tys} {p : Option Addr} {n cap : Nat} (h : Kids ok w ks p n cap) {g : Nat} (hg : ¬ ok g) (i : Nat) (v : Value) : Kids ok (w.setCell ⟨g, i, Option.none⟩ v) ks p n cap :=
  h.turn (fun B k u hB hu => by rw [← hu]; exact World.cell?_of_block (Below.heap_setCell _ _ _ _ (fun e => hg (by rw [← show B = g from e]; exact hB)))) (fun _ _ h => h)
theorem Kids.none (w : World) : Kids ok w .nil none 0 0 := ⟨rfl, Nat.le_refl _, Nat.zero_le _, Or.inl ⟨rfl, rfl, rfl⟩⟩
def Hd.zero : Hd := ⟨0, 0, 0, false, ByteArray.empty⟩
/-- A type's value. -/
@[reducible] def tv (h : Hd) (p : Option Addr) (n cap : Nat) : Value := .agg #[.int .i64 h.kind, .int .i64 h.size, .int .i64 h.len, .bool h.flag, .string h.name, .slice p n cap]
/-- The first part: its own part, the row of its parts. -/
def Tys.hd : Tys → Hd
  | .nil => Hd.zero
  | .cons h _ _ => h
def Tys.kids : Tys → Tys
  | .nil => .nil
  | .cons _ k _ => k
def Tys.rest : Tys → Tys
  | .nil => .nil
  | .cons _ _ r => r

set_option maxHeartbeats 1000000 in
/-- The first part of a type. -/
theorem kid_any (h : Hd) (ks : Tys) (p : Option Addr) (n cap : Nat) (w0 w : World) (hf : Fresh w0 w) (hk : Kids ok w0 ks p n cap) :
    Calls Tryz.prog 83 #[.agg #[.int .i64 h.kind, .int .i64 h.size, .int .i64 h.len, .bool h.flag, .string h.name, .slice p n cap], .int .i64 0] w
      fun e w' => (∃ p' n' cap', e = .returned (.agg #[.int .i64 ks.hd.kind, .int .i64 ks.hd.size, .int .i64 ks.hd.len, .bool ks.hd.flag, .string ks.hd.name, .slice p' n' cap']) ∧ Kids ok w0 ks.kids p' n' cap') ∧ Fresh w w' := by
  obtain ⟨hn, hc, hm, hr⟩ := hk
  have HF := Lib.hid hf
  clear hf
  unfold maxLen at hm
  cases ks with
  | nil =>
    have hn0 : n = 0 := hn
    subst hn0
    clear hn hr
    go_enter Tryz.func83, Tryz.ntmps83
    go_wp2
    go_returns
    exact ⟨⟨_, _, _, rfl, Kids.none w0⟩, (by (repeat' first | with_reducible exact Fresh.refl _ | with_reducible assumption | with_reducible refine Fresh.alloc ?_ _ _ | with_reducible refine Fresh.drew ?_ | with_reducible refine Fresh.drewN ?_ _ | with_reducible refine Fresh.setCell ?_ ?_ _ | with_reducible refine Fresh.trans ?_ (by assumption) | (simp; done) | (simp; omega)))⟩
  | cons k0 kk rr =>
    have hn1 : 0 < n := by simp [Tys.length] at hn; omega
    obtain ⟨B, off, rfl, hrow⟩ := hr.resolve_left (fun h => by have := h.2.1; omega)
    obtain ⟨-, ⟨p', n', cap', ⟨c0, c1, c2, c3, c4, c5⟩, hn', hc', hm', hk'⟩, -⟩ := hrow
    have HK := Lib.hid (show Kids ok w0 kk p' n' cap' from ⟨hn', hc', hm', hk'⟩)
    have d0 := HF.out.at' c0
    have d1 := HF.out.at' c1
    have d2 := HF.out.at' c2
    have d3 := HF.out.at' c3
    have d4 := HF.out.at' c4
    have d5 := HF.out.at' c5
    clear c0 c1 c2 c3 c4 c5
    have z0 := cell_lt d0
    simp only at z0
    clear hn hr hn' hc' hm' hk'
    go_enter Tryz.func83, Tryz.ntmps83
    go_wp2
    go_returns
    exact ⟨⟨_, _, _, rfl, HK.out⟩, (by (repeat' first | with_reducible exact Fresh.refl _ | with_reducible assumption | with_reducible refine Fresh.alloc ?_ _ _ | with_reducible refine Fresh.drew ?_ | with_reducible refine Fresh.drewN ?_ _ | with_reducible refine Fresh.setCell ?_ ?_ _ | with_reducible refine Fresh.trans ?_ (by assumption) | (simp; done) | (simp; omega)))⟩
end Go.Proofs.YteiomcbphbbpkaaGreatDoor
