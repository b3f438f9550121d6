/- TracePlays: its first half. -/
import Derived.Test.YtjbflmpnmobngaaDoorTg
import Derived.Deep.DeepCutAuto
namespace Go.Proofs.YtjbflmpnmobngaaDoor
set_option linter.unusedSimpArgs false
set_option linter.unusedVariables false
open Go.RowKit

theorem info2 : (Tryd.prog.info? 2).map (fun i => (i.zero, i.size, i.bytes)) = some (some (.int .i64 0), 1, 8) := by kernel_rfl
/-- The arguments and one more. -/
def fMore (n : Nat) (f : Nat → V3) (i : Nat) : V3 := if i = n then ⟨77, 0, 0⟩ else f i
theorem rowV_more (f : Nat → V3) (n : Nat) : rowV f n ++ [.int .i64 77, .int .u64 0, .int .i64 0] = rowV (fMore n f) (n + 1) := by
  rw [rowV_succ, rowV_congr (f := fMore n f) (g := f) n (fun i hi => by simp [fMore, show ¬ i = n by omega])]
  simp [fMore]
/-- What stands ahead of the two calls. -/
structure Ahead (w1 X : World) (n : Nat) (f : Nat → V3) (m : Nat) (g : Nat → Int) (v11 v12 : Value) : Prop where
  ex : ∃ mg mc np nc, v11 = .slice (some ⟨mg, 0, none⟩) (n + 1) mc ∧ v12 = .slice np m nc ∧ m ≤ nc ∧ nc ≤ maxLen ∧ NumsAt X np m g ∧ (∀ a, np = some a → a.block ≠ mg) ∧ X.ownsRow w1.heap.size 30 3 (.slice (some ⟨mg, 0, none⟩) (n + 1) mc) (n + 1) (rowV (fMore n f) (n + 1))
  b : Below w1.heap.size w1 X
theorem own_below {w w' : World} (k : Below w.heap.size w w') {base : Nat} {e : TypeId} {size : Nat} {v : Value} {n : Nat} {xs : List Value} (h : w.ownsRow base e size v n xs) : w'.ownsRow base e size v n xs :=
  h.kept (row := none) ⟨k.os, k.tape, k.output, k.size, fun i hi _ => k.block i hi⟩ (by cases hv : v.ownBlock <;> simp)
/-- All that stays until the row is written. -/
structure Sit (w w1 : World) (mg mcap n : Nat) (p q np pp : Option Addr) (pn pc m : Nat) (f : Nat → V3) (g ks : Nat → Int) (kd : Int) (X : World) : Prop where
  b : Below w.heap.size w X
  b1 : Below w1.heap.size w1 X
  s0 : X.cell? ⟨w.heap.size, 0, none⟩ = some (.slice pp pn pc)
  s1 : X.cell? ⟨w.heap.size, 1, none⟩ = some (.int .i64 kd)
  v : ValsAt X p n f
  q : NumsAt X q m g
  nq : NumsAt X np m g
  k : NumsAt X pp pn ks
  own : X.ownsRow w1.heap.size 30 3 (.slice (some ⟨mg, 0, none⟩) (n + 1) mcap) (n + 1) (rowV (fMore n f) (n + 1))
theorem Sit.below {w w1 : World} {mg mcap n : Nat} {p q np pp : Option Addr} {pn pc m : Nat} {f : Nat → V3} {g ks : Nat → Int} {kd : Int} {X Y : World} (h : Sit w w1 mg mcap n p q np pp pn pc m f g ks kd X) (k : Below X.heap.size X Y) : Sit w w1 mg mcap n p q np pp pn pc m f g ks kd Y :=
  ⟨h.b.trans (k.mono h.b.size), h.b1.trans (k.mono h.b1.size), stays_below k _ _ _ h.s0, stays_below k _ _ _ h.s1, h.v.below k, h.q.below k, h.nq.below k, h.k.below k, own_below k h.own⟩
/-- The row's first ones, as values. -/
theorem Sit.mine {w w1 : World} {mg mcap n : Nat} {p q np pp : Option Addr} {pn pc m : Nat} {f : Nat → V3} {g ks : Nat → Int} {kd : Int} {X : World} (h : Sit w w1 mg mcap n p q np pp pn pc m f g ks kd X) : ValsAt X (some ⟨mg, 0, none⟩) n f :=
  Or.inr ⟨mg, 0, rfl, fun i hi => by
    obtain ⟨e0, e1, e2⟩ := rowV_get (fMore n f) (n + 1) i (by omega)
    have e : fMore n f i = f i := by simp [fMore, show ¬ i = n by omega]
    rw [e] at e0 e1 e2
    rw [Nat.zero_add]
    exact ⟨by rw [h.own.cellAt _ (by omega), e0], by rw [h.own.cellAt _ (by omega), e1], by rw [h.own.cellAt _ (by omega), e2]⟩⟩
theorem EvBx.below {w w' : World} {b : Nat} {e : Ev} (h : EvBx w b e) (k : Below w.heap.size w w') : EvBx w' b e := ⟨stays_below k _ _ _ h.c0, stays_below k _ _ _ h.c1, stays_below k _ _ _ h.c2, stays_below k _ _ _ h.c3, stays_below k _ _ _ h.c4⟩
theorem EvBx.set {w : World} {b : Nat} {e : Ev} (h : EvBx w b e) {g : Nat} (hg : g ≠ b) (i : Nat) (v : Value) : EvBx (w.setCell ⟨g, i, none⟩ v) b e := by
  have ne : ∀ k u, w.cell? ⟨b, k, none⟩ = some u → (w.setCell ⟨g, i, none⟩ v).cell? ⟨b, k, none⟩ = some u := fun k u hu => by
    rw [← hu]
    exact World.cell?_setCell_other _ _ _ _ (fun e => hg (congrArg Addr.block e))
  exact ⟨ne _ _ h.c0, ne _ _ h.c1, ne _ _ h.c2, ne _ _ h.c3, ne _ _ h.c4⟩
/-- The two events, each in its box. -/
structure Two (N c1 c2 : Nat) (nm : ByteArray) (n : Nat) (f : Nat → V3) (A : V3) (p1 p2 : Option Addr) (k1 k2 : Nat) (X : World) : Prop where
  e1 : EvBx X c1 ⟨nm, p1, n, k1, f, A⟩
  e2 : EvBx X c2 ⟨nm, p2, n, k2, f, A⟩
  o1 : OutAt N X p1 n k1 f
  o2 : OutAt N X p2 n k2 f
theorem Two.below {N c1 c2 : Nat} {nm : ByteArray} {n : Nat} {f : Nat → V3} {A : V3} {p1 p2 : Option Addr} {k1 k2 : Nat} {X Y : World} (h : Two N c1 c2 nm n f A p1 p2 k1 k2 X) (k : Below X.heap.size X Y) : Two N c1 c2 nm n f A p1 p2 k1 k2 Y :=
  ⟨h.e1.below k, h.e2.below k, h.o1.below k, h.o2.below k⟩
theorem Two.set {N c1 c2 : Nat} {nm : ByteArray} {n : Nat} {f : Nat → V3} {A : V3} {p1 p2 : Option Addr} {k1 k2 : Nat} {X : World} (h : Two N c1 c2 nm n f A p1 p2 k1 k2 X) {g : Nat} (hg : g < N) (h1 : N ≤ c1) (h2 : N ≤ c2) (i : Nat) (v : Value) : Two N c1 c2 nm n f A p1 p2 k1 k2 (X.setCell ⟨g, i, none⟩ v) :=
  ⟨h.e1.set (by omega) i v, h.e2.set (by omega) i v, h.o1.set hg i v, h.o2.set hg i v⟩
theorem sameE_yes (nm : ByteArray) (n : Nat) (f : Nat → V3) (A : V3) (p1 p2 : Option Addr) (k1 k2 : Nat) : sameE ⟨nm, p1, n, k1, f, A⟩ ⟨nm, p2, n, k2, f, A⟩ = true := by
  have h : eqV n n f f = true := eqV_yes (fun i _ => (sameV_iff _ _).2 rfl)
  have h2 : sameV A A = true := (sameV_iff _ _).2 rfl
  simp [sameE, h, h2]
theorem Two.same9 {N c1 c2 : Nat} {nm : ByteArray} {n : Nat} {f : Nat → V3} {A : V3} {p1 p2 : Option Addr} {k1 k2 : Nat} {X : World} (h : Two N c1 c2 nm n f A p1 p2 k1 k2 X) :
    Calls Tryd.prog 9 #[.agg #[.string nm, .slice p1 n k1, .int .i64 A.k, .int .u64 A.n, .int .i64 A.b], .agg #[.string nm, .slice p2 n k2, .int .i64 A.k, .int .u64 A.n, .int .i64 A.b]] X fun e X' => e = .returned (.bool true) ∧ Fresh X X' := by
  have := sameER_any ⟨nm, p1, n, k1, f, A⟩ ⟨nm, p2, n, k2, f, A⟩ X ⟨h.o1.1, h.o1.2.1, h.o1.2.2.1⟩ ⟨h.o2.1, h.o2.2.1, h.o2.2.2.1⟩
  rw [sameE_yes] at this
  exact this
theorem Two.same10 {N c1 c2 : Nat} {nm : ByteArray} {n : Nat} {f : Nat → V3} {A : V3} {p1 p2 : Option Addr} {k1 k2 : Nat} {X : World} (h : Two N c1 c2 nm n f A p1 p2 k1 k2 X) :
    Calls Tryd.prog 10 #[.agg #[.string nm, .slice p1 n k1, .int .i64 A.k, .int .u64 A.n, .int .i64 A.b], .agg #[.string nm, .slice p2 n k2, .int .i64 A.k, .int .u64 A.n, .int .i64 A.b]] X fun e X' => e = .returned (.bool true) ∧ Fresh X X' := by
  have := sameEvent_any ⟨nm, p1, n, k1, f, A⟩ ⟨nm, p2, n, k2, f, A⟩ X ⟨h.o1.1, h.o1.2.1, h.o1.2.2.1⟩ ⟨h.o2.1, h.o2.2.1, h.o2.2.2.1⟩
  rw [sameE_yes] at this
  exact this
/-- An event that a call answered, in a box of the law's own. -/
def EvOut (W : World) (E : Ev) (s13 : Value) (wx : World) : Prop := ∃ c p cap, s13 = .pointer (some ⟨c, 0, none⟩) ∧ W.heap.size ≤ c ∧ c < wx.heap.size ∧ Below W.heap.size W wx ∧ EvBx wx c ⟨E.nm, p, E.n, cap, E.f, E.r⟩ ∧ OutAt W.heap.size wx p E.n cap E.f
theorem evOut_a {W w5 : World} {E : Ev} {p : Option Addr} {cap : Nat} (hb : Below W.heap.size W w5) (ho : OutAt W.heap.size w5 p E.n cap E.f) :
    EvOut W E (.pointer (some ⟨w5.heap.size, 0, none⟩)) (w5.alloc (.cells #[.string E.nm, .slice p E.n cap, .int .i64 E.r.k, .int .u64 E.r.n, .int .i64 E.r.b] 32)) :=
  ⟨_, p, cap, rfl, hb.size, by simp, hb.alloc hb.size _, ⟨by simp [go_sem], by simp [go_sem], by simp [go_sem], by simp [go_sem], by simp [go_sem]⟩, ho.below ((Fresh.refl w5).alloc _ _).below⟩
theorem evOut_b {W w5 : World} {E : Ev} {p : Option Addr} {cap : Nat} (hb : Below ((W.alloc (.cells #[.string ⟨#[]⟩, .slice none 0 0, .int .i64 0, .int .u64 0, .int .i64 0] 32)).drew).heap.size ((W.alloc (.cells #[.string ⟨#[]⟩, .slice none 0 0, .int .i64 0, .int .u64 0, .int .i64 0] 32)).drew) w5) (ho : OutAt ((W.alloc (.cells #[.string ⟨#[]⟩, .slice none 0 0, .int .i64 0, .int .u64 0, .int .i64 0] 32)).drew).heap.size w5 p E.n cap E.f) (hr : Res W.heap.size w5) :
    EvOut W E (.pointer (some ⟨W.heap.size, 0, none⟩)) (((((w5.setCell ⟨W.heap.size, 0, none⟩ (.string E.nm)).setCell ⟨W.heap.size, 1, none⟩ (.slice p E.n cap)).setCell ⟨W.heap.size, 2, none⟩ (.int .i64 E.r.k)).setCell ⟨W.heap.size, 3, none⟩ (.int .u64 E.r.n)).setCell ⟨W.heap.size, 4, none⟩ (.int .i64 E.r.b)) := by
  have hs : ((W.alloc (.cells #[.string ⟨#[]⟩, .slice none 0 0, .int .i64 0, .int .u64 0, .int .i64 0] 32)).drew).heap.size = W.heap.size + 1 := by simp [World.drew]
  rw [hs] at hb ho
  have hb2 : Below W.heap.size W w5 := (((Fresh.refl W).alloc #[.string ⟨#[]⟩, .slice none 0 0, .int .i64 0, .int .u64 0, .int .i64 0] 32).drew).below.trans (hb.mono (by omega))
  obtain ⟨r0, r1, r2, r3, r4, rf⟩ := hr
  have hlt := cell_lt r0
  refine ⟨_, p, cap, rfl, Nat.le_refl _, by simpa [World.setCell] using hlt, ((((hb2.setCell (p := ⟨W.heap.size, 0, none⟩) (Nat.le_refl _) _).setCell (p := ⟨W.heap.size, 1, none⟩) (Nat.le_refl _) _).setCell (p := ⟨W.heap.size, 2, none⟩) (Nat.le_refl _) _).setCell (p := ⟨W.heap.size, 3, none⟩) (Nat.le_refl _) _).setCell (p := ⟨W.heap.size, 4, none⟩) (Nat.le_refl _) _, ⟨?_, ?_, ?_, ?_, ?_⟩, (ho.set5 (by omega) ..).low (by omega)⟩
  all_goals simp [go_sem, *]
theorem ValsAt.set {w : World} {p : Option Addr} {n : Nat} {f : Nat → V3} (h : ValsAt w p n f) {g : Nat} (hg : ∀ a, p = some a → n ≠ 0 → a.block ≠ g) (i : Nat) (v : Value) : ValsAt (w.setCell ⟨g, i, none⟩ v) p n f := by
  rcases h with h0 | ⟨B, off, hp, hc⟩
  · exact Or.inl h0
  · by_cases hn : n = 0
    · exact Or.inl hn
    have hB : B ≠ g := hg _ hp hn
    have ne : ∀ k u, w.cell? ⟨B, k, none⟩ = some u → (w.setCell ⟨g, i, none⟩ v).cell? ⟨B, k, none⟩ = some u := fun k u hu => by
      rw [← hu]
      exact World.cell?_setCell_other _ _ _ _ (fun e => hB (congrArg Addr.block e).symm)
    exact Or.inr ⟨B, off, hp, fun k hk => ⟨ne _ _ (hc k hk).1, ne _ _ (hc k hk).2.1, ne _ _ (hc k hk).2.2⟩⟩
theorem NumsAt.set {w : World} {p : Option Addr} {n : Nat} {f : Nat → Int} (h : NumsAt w p n f) {g : Nat} (hg : ∀ a, p = some a → n ≠ 0 → a.block ≠ g) (i : Nat) (v : Value) : NumsAt (w.setCell ⟨g, i, none⟩ v) p n f := by
  rcases h with h0 | ⟨B, off, hp, hc⟩
  · exact Or.inl h0
  · by_cases hn : n = 0
    · exact Or.inl hn
    have hB : B ≠ g := hg _ hp hn
    exact Or.inr ⟨B, off, hp, fun k hk => by
      rw [← hc k hk]
      exact World.cell?_setCell_other _ _ _ _ (fun e => hB (congrArg Addr.block e).symm)⟩
theorem ValsAt.old {w : World} {p : Option Addr} {n : Nat} {f : Nat → V3} (h : ValsAt w p n f) : ∀ a, p = some a → n ≠ 0 → a.block < w.heap.size := fun a ha hn => by
  obtain ⟨B, off, hp, hc⟩ := h.resolve_left hn
  rw [ha] at hp
  cases hp
  exact cell_lt (hc 0 (by omega)).1
theorem NumsAt.old {w : World} {p : Option Addr} {n : Nat} {f : Nat → Int} (h : NumsAt w p n f) : ∀ a, p = some a → n ≠ 0 → a.block < w.heap.size := fun a ha hn => by
  obtain ⟨B, off, hp, hc⟩ := h.resolve_left hn
  rw [ha] at hp
  cases hp
  exact cell_lt (hc 0 (by omega))
/-- The row while it is written. -/
def fDone (n : Nat) (f : Nat → V3) (k i : Nat) : V3 := if i < k then ⟨99, 0, 0⟩ else fMore n f i
/-- What stands at a round's head. -/
structure Rnd (w w1 : World) (mg mcap n : Nat) (p q np : Option Addr) (m : Nat) (f : Nat → V3) (g : Nat → Int) (kd : Int) (N c1 c2 : Nat) (nm : ByteArray) (n' : Nat) (A : V3) (p1 p2 : Option Addr) (k1 k2 : Nat) (k : Nat) (X : World) : Prop where
  b : Below w.heap.size w X
  s1 : X.cell? ⟨w.heap.size, 1, none⟩ = some (.int .i64 kd)
  v : ValsAt X p n f
  q : NumsAt X q m g
  nq : NumsAt X np m g
  own : X.ownsRow w1.heap.size 30 3 (.slice (some ⟨mg, 0, none⟩) (n + 1) mcap) (n + 1) (rowV (fDone n f k) (n + 1))
  two : Two N c1 c2 nm n' f A p1 p2 k1 k2 X
section
variable {w w1 : World} {mg mcap n : Nat} {p q np : Option Addr} {m : Nat} {f : Nat → V3} {g : Nat → Int} {kd : Int} {N c1 c2 : Nat} {nm : ByteArray} {n' : Nat} {A : V3} {p1 p2 : Option Addr} {k1 k2 k : Nat} {X Y : World}
theorem Rnd.below (h : Rnd w w1 mg mcap n p q np m f g kd N c1 c2 nm n' A p1 p2 k1 k2 k X) (b : Below X.heap.size X Y) : Rnd w w1 mg mcap n p q np m f g kd N c1 c2 nm n' A p1 p2 k1 k2 k Y :=
  ⟨h.b.trans (b.mono h.b.size), stays_below b _ _ _ h.s1, h.v.below b, h.q.below b, h.nq.below b, own_below b h.own, h.two.below b⟩
/-- Nothing but the row's block is written. -/
structure Apart (w : World) (mg n m : Nat) (p q np : Option Addr) (N c1 c2 : Nat) : Prop where
  lo : w.heap.size < mg
  hi : mg < N
  h1 : N ≤ c1
  h2 : N ≤ c2
  p : ∀ a, p = some a → n ≠ 0 → a.block ≠ mg
  q : ∀ a, q = some a → m ≠ 0 → a.block ≠ mg
  np : ∀ a, np = some a → m ≠ 0 → a.block ≠ mg
theorem Rnd.step (h : Rnd w w1 mg mcap n p q np m f g kd N c1 c2 nm n' A p1 p2 k1 k2 k X) (hk : k < n) (a : Apart w mg n m p q np N c1 c2) :
    Rnd w w1 mg mcap n p q np m f g kd N c1 c2 nm n' A p1 p2 k1 k2 (k + 1) (((X.setCell ⟨mg, k * 3, none⟩ (.int .i64 99)).setCell ⟨mg, k * 3 + 1, none⟩ (.int .u64 0)).setCell ⟨mg, k * 3 + 2, none⟩ (.int .i64 0)) := by
  have hlo := a.lo
  refine ⟨((h.b.setCell (p := ⟨mg, k * 3, none⟩) (by simp only; omega) _).setCell (p := ⟨mg, k * 3 + 1, none⟩) (by simp only; omega) _).setCell (p := ⟨mg, k * 3 + 2, none⟩) (by simp only; omega) _, ?_, ((h.v.set a.p _ _).set a.p _ _).set a.p _ _, ((h.q.set a.q _ _).set a.q _ _).set a.q _ _, ((h.nq.set a.np _ _).set a.np _ _).set a.np _ _, ?_, ((h.two.set a.hi a.h1 a.h2 _ _).set a.hi a.h1 a.h2 _ _).set a.hi a.h1 a.h2 _ _⟩
  · have ne : ∀ (Z : World) (i : Nat) (v : Value), (Z.setCell ⟨mg, i, none⟩ v).cell? ⟨w.heap.size, 1, none⟩ = Z.cell? ⟨w.heap.size, 1, none⟩ := fun Z i v => World.cell?_setCell_other _ _ _ _ (fun e => by have := congrArg Addr.block e; simp only at this; omega)
    rw [ne, ne, ne]
    exact h.s1
  · have h3 := (((h.own.stored (k * 3) (.int .i64 99)).1.stored (k * 3 + 1) (.int .u64 0)).1.stored (k * 3 + 2) (.int .i64 0)).1
    have e := rowV_set (fDone n f k) ⟨99, 0, 0⟩ (n + 1) k (by omega)
    simp only at e
    rw [e] at h3
    rw [rowV_congr (f := fDone n f (k + 1)) (g := fun i => if i = k then ⟨99, 0, 0⟩ else fDone n f k i) (n + 1) (fun i _ => by
      unfold fDone
      by_cases q1 : i = k
      · simp [q1]
      · by_cases q2 : i < k
        · simp [q1, q2, show i < k + 1 by omega]
        · simp [q1, q2, show ¬ i < k + 1 by omega])]
    exact h3
theorem Rnd.cells (h : Rnd w w1 mg mcap n p q np m f g kd N c1 c2 nm n' A p1 p2 k1 k2 k X) (hk : k < n) :
    X.cell? ⟨mg, k * 3, none⟩ = some (.int .i64 (f k).k) ∧ X.cell? ⟨mg, k * 3 + 1, none⟩ = some (.int .u64 (f k).n) ∧ X.cell? ⟨mg, k * 3 + 2, none⟩ = some (.int .i64 (f k).b) := by
  obtain ⟨e0, e1, e2⟩ := rowV_get (fDone n f k) (n + 1) k (by omega)
  have e : fDone n f k k = f k := by simp [fDone, fMore, show ¬ k = n by omega]
  rw [e] at e0 e1 e2
  exact ⟨by rw [h.own.cellAt _ (by omega), e0], by rw [h.own.cellAt _ (by omega), e1], by rw [h.own.cellAt _ (by omega), e2]⟩
theorem Rnd.all (h : Rnd w w1 mg mcap n p q np m f g kd N c1 c2 nm n' A p1 p2 k1 k2 k X) : X.cell? ⟨c1, 0, none⟩ = some (.string nm) ∧ X.cell? ⟨c1, 1, none⟩ = some (.slice p1 n' k1) ∧ X.cell? ⟨c1, 2, none⟩ = some (.int .i64 A.k) ∧ X.cell? ⟨c1, 3, none⟩ = some (.int .u64 A.n) ∧ X.cell? ⟨c1, 4, none⟩ = some (.int .i64 A.b) ∧ X.cell? ⟨c2, 0, none⟩ = some (.string nm) ∧ X.cell? ⟨c2, 1, none⟩ = some (.slice p2 n' k2) ∧ X.cell? ⟨c2, 2, none⟩ = some (.int .i64 A.k) ∧ X.cell? ⟨c2, 3, none⟩ = some (.int .u64 A.n) ∧ X.cell? ⟨c2, 4, none⟩ = some (.int .i64 A.b) ∧ X.cell? ⟨w.heap.size, 1, none⟩ = some (.int .i64 kd) :=
  ⟨h.two.e1.c0, h.two.e1.c1, h.two.e1.c2, h.two.e1.c3, h.two.e1.c4, h.two.e2.c0, h.two.e2.c1, h.two.e2.c2, h.two.e2.c3, h.two.e2.c4, h.s1⟩
theorem Sit.last {pp : Option Addr} {pn pc : Nat} {ks : Nat → Int} (h : Sit w w1 mg mcap n p q np pp pn pc m f g ks kd X) : X.cell? ⟨mg, n * 3, none⟩ = some (.int .i64 77) := by
  obtain ⟨e0, e1, e2⟩ := rowV_get (fMore n f) (n + 1) n (by omega)
  rw [h.own.cellAt _ (by omega), e0]
  simp [fMore]
theorem Rnd.zero {pp : Option Addr} {pn pc : Nat} {ks : Nat → Int} (h : Sit w w1 mg mcap n p q np pp pn pc m f g ks kd X) (t : Two N c1 c2 nm n' f A p1 p2 k1 k2 X) : Rnd w w1 mg mcap n p q np m f g kd N c1 c2 nm n' A p1 p2 k1 k2 0 X :=
  ⟨h.b, h.s1, h.v, h.q, h.nq, by rw [rowV_congr (f := fDone n f 0) (g := fMore n f) (n + 1) (fun i _ => by simp [fDone])]; exact h.own, t⟩
end
set_option maxRecDepth 100000 in
set_option maxHeartbeats 8000000 in
theorem plays_law (name : ByteArray) (pp p q : Option Addr) (pn pc n cap m mc : Nat) (ks g : Nat → Int) (kd kq : Int) (f : Nat → V3) (hp : pn ≤ pc) (hpm : pc ≤ maxLen) (hn : n ≤ cap) (hm : cap ≤ maxLen) (hb : n ≤ 5864062014634) (hnil : p = none → n = 0 ∧ cap = 0) (hmc : m ≤ mc) (hmm : mc ≤ maxLen) (hmb : m ≤ 17592186044416) (hqnil : q = none → m = 0 ∧ mc = 0) (w : World) (h1 : NumsAt w pp pn ks) (h2 : ValsAt w p n f) (h3 : NumsAt w q m g) :
    Calls Tryd.prog 3 #[.string name, .agg #[.slice pp pn pc, .int .i64 kd], .slice p n cap, .slice q m mc, .int .i64 kq] w fun e w' => e = .returned (.bool true) ∧ Below w.heap.size w w' := by
  obtain ⟨i0, hi, hz0, hz1, hz2⟩ := info_parts info30'
  obtain ⟨j0, hj, hy0, hy1, hy2⟩ := info_parts info2
  have HOP := Lib.hid h2.old
  have HOQ := Lib.hid h3.old
  have H1 := Lib.hid h1
  have H2 := Lib.hid h2
  have H3 := Lib.hid h3
  have HP := Lib.hid (And.intro hp hpm)
  have HN := Lib.hid (And.intro hn (And.intro hm hb))
  have HNIL := Lib.hid hnil
  have HM := Lib.hid (And.intro hmc (And.intro hmm hmb))
  have HQNIL := Lib.hid hqnil
  clear h1 h2 h3 hp hpm hn hm hb hnil hmc hmm hmb hqnil
  go_enter Tryd.func3, Tryd.ntmps3
  go_wp2_with fail
  go_at_call 6; refine (fixed_any _).mono ?_; rintro e w1 ⟨rfl, h1⟩
  have S0 : Hid ((w.alloc (.cells #[.slice pp pn pc, .int .i64 kd] 24)).cell? ⟨w.heap.size, 0, none⟩ = some (.slice pp pn pc)) := Lib.hid (by simp [go_sem])
  have S1 : Hid ((w.alloc (.cells #[.slice pp pn pc, .int .i64 kd] 24)).cell? ⟨w.heap.size, 1, none⟩ = some (.int .i64 kd)) := Lib.hid (by simp [go_sem])
  have S0 := Lib.hid (stays_below h1 _ _ _ S0.out)
  have S1 := Lib.hid (stays_below h1 _ _ _ S1.out)
  have HA : Hid (Fresh w (w.alloc (.cells #[.slice pp pn pc, .int .i64 kd] 24))) := Lib.hid (by (repeat' first | with_reducible exact Fresh.refl _ | with_reducible assumption | with_reducible refine Fresh.alloc ?_ _ _ | with_reducible refine Fresh.drew ?_ | with_reducible refine Fresh.drewN ?_ _ | with_reducible refine Fresh.setCell ?_ ?_ _ | with_reducible refine Fresh.trans ?_ (by assumption) | (simp; done) | (simp; omega)))
  have B1 : Hid (Below w.heap.size w w1) := Lib.hid (HA.out.below.trans (h1.mono HA.out.size))
  have V1 := Lib.hid (H2.out.below B1.out)
  have N1 := Lib.hid (H3.out.below B1.out)
  have K1 := Lib.hid (H1.out.below B1.out)
  have HZ1 : Hid (w.heap.size < w1.heap.size) := Lib.hid (cell_lt S0.out)
  clear H1 H2 H3 HA h1
  have HOW : Hid ((w1.alloc (.cells #[] 30)).ownsRow w1.heap.size 30 3 (.slice (some ⟨w1.heap.size, 0, none⟩) 0 0) 0 []) := Lib.hid (World.ownsRow_lit w1 #[] 0 (Nat.le_refl _) (by decide) (by decide))
  have HW1 : Hid (Fresh w1 (w1.alloc (.cells #[] 30))) := Lib.hid (by (repeat' first | with_reducible exact Fresh.refl _ | with_reducible assumption | with_reducible refine Fresh.alloc ?_ _ _ | with_reducible refine Fresh.drew ?_ | with_reducible refine Fresh.drewN ?_ _ | with_reducible refine Fresh.setCell ?_ ?_ _ | with_reducible refine Fresh.trans ?_ (by assumption) | (simp; done) | (simp; omega)))
  have A1 : Hid (∀ ad, p = some ad → ∀ j u, (rowV f n)[j]? = some u → (w1.alloc (.cells #[] 30)).cell? (ad.add j) = some u) := Lib.hid (fun ad e => by have := V1.out.later HW1.out; rw [e] at this; exact this.news)
  have A2 : Hid (∀ v' w', w'.ownsRow w1.heap.size 30 3 v' n (rowV f n) → (w1.alloc (.cells #[] 30)).grownBy w' (Value.slice (some ⟨w1.heap.size, 0, none⟩) 0 0).ownBlock → w'.ownsRow w1.heap.size 30 3 v' n (rowV f n) ∧ Below w1.heap.size w1 w' ∧ w1.heap.size ≤ w'.heap.size) := Lib.hid (fun v' w' hown hgrow => by
    have hb := HW1.out.below.grown hgrow HW1.out.size (fun b hb => (HOW.out.lt b hb).1)
    exact ⟨hown, hb, hb.size⟩)
  have hb1 : Hid (0 + n ≤ maxLen ∧ ((0 + n) + (0 + n) / 4 + 192) * 24 ≤ 281474976710656 ∧ n + 1 ≤ maxLen ∧ ((n + 1) + (n + 1) / 4 + 192) * 24 ≤ 281474976710656) := Lib.hid (by have := HN.out; have e : maxLen = 2 ^ 63 - 1 := rfl; omega)
  have hb2 : Hid (0 + m ≤ maxLen ∧ ((0 + m) + (0 + m) / 4 + 192) * 8 ≤ 281474976710656) := Lib.hid (by have := HM.out; have e : maxLen = 2 ^ 63 - 1 := rfl; omega)
  go_upto_region 3 with fail
  go_wp2_with (at_builtin; refine wpList_append_opt _ rfl _ _ 25 rfl w1.heap.size 30 i0 (.agg #[.int .i64 0, .int .u64 0, .int .i64 0]) 3 24 Tryd.underlying25 hi hz0 hz1 hz2 rfl (by decide) _ _ _ rfl HOW.out p n cap (rowV f n) rfl (rowV_len f n) HNIL.out A1.out rowV_one hb1.out.1 hb1.out.2.1 HW1.out.size ?_)
  intro v2 w2 hown2 hgrow2
  obtain ⟨k1, k2, k3⟩ := A2.out v2 w2 hown2 hgrow2
  have HO2 := Lib.hid k1
  have HB2 := Lib.hid k2
  have HL2 : Hid (w1.heap.size ≤ (w2.alloc (.cells #[.int .i64 77, .int .u64 0, .int .i64 0] 30)).heap.size) := Lib.hid (by simp; omega)
  have HN2 : Hid (∀ j u, [Value.int .i64 77, .int .u64 0, .int .i64 0][j]? = some u → (w2.alloc (.cells #[.int .i64 77, .int .u64 0, .int .i64 0] 30)).cell? ((⟨w2.heap.size, 0, none⟩ : Addr).add j) = some u) := Lib.hid (by
    intro j u hj
    match j, hj with
    | 0, hj => simp at hj; subst hj; simp [Addr.add]
    | 1, hj => simp at hj; subst hj; simp [Addr.add]
    | 2, hj => simp at hj; subst hj; simp [Addr.add])
  clear hown2 hgrow2 k1 k2 k3 A1 A2 HOW HW1
  go_wp2_with (at_builtin; refine wpList_append_own_wide _ rfl _ _ 25 rfl w1.heap.size 30 i0 (.agg #[.int .i64 0, .int .u64 0, .int .i64 0]) 3 24 Tryd.underlying25 hi hz0 hz1 hz2 rfl (by decide) _ n (rowV f n) rfl (HO2.out.alloc _) ⟨w2.heap.size, 0, none⟩ 1 1 [.int .i64 77, .int .u64 0, .int .i64 0] rfl rfl HN2.out (by intro u hu; simp at hu; rcases hu with rfl | rfl | rfl <;> rfl) hb1.out.2.2.1 hb1.out.2.2.2 HL2.out ?_)
  intro v3 w3 hown3 hgrow3 _
  obtain ⟨mg, mcap, rfl⟩ : ∃ mg mcap, v3 = .slice (some ⟨mg, 0, none⟩) (n + 1) mcap := by
    rcases hown3.2 with ⟨_, h0⟩ | ⟨g, cap, cur, hv, _⟩
    · omega
    · exact ⟨_, _, hv⟩
  rw [rowV_more] at hown3
  have HO3 := Lib.hid hown3
  have HB3 : Hid (Below w1.heap.size w1 w3) := Lib.hid ((HB2.out.alloc HB2.out.size _).grown hgrow3 HL2.out (fun b hb => (HO2.out.lt b hb).1))
  have HL3 : Hid (mg < w3.heap.size ∧ w1.heap.size ≤ mg) := Lib.hid ⟨(hown3.lt mg rfl).2, (hown3.lt mg rfl).1⟩
  have HN3 := Lib.hid (N1.out.below HB3.out)
  have HF3 : Hid (Fresh w3 (w3.alloc (.cells #[] 2))) := Lib.hid (by (repeat' first | with_reducible exact Fresh.refl _ | with_reducible assumption | with_reducible refine Fresh.alloc ?_ _ _ | with_reducible refine Fresh.drew ?_ | with_reducible refine Fresh.drewN ?_ _ | with_reducible refine Fresh.setCell ?_ ?_ _ | with_reducible refine Fresh.trans ?_ (by assumption) | (simp; done) | (simp; omega)))
  have HOW3 : Hid ((w3.alloc (.cells #[] 2)).ownsRow w3.heap.size 2 1 (.slice (some ⟨w3.heap.size, 0, none⟩) 0 0) 0 []) := Lib.hid (World.ownsRow_lit w3 #[] 0 (Nat.le_refl _) (by decide) (by decide))
  have A3 : Hid (∀ bd, q = some bd → ∀ j u, (rowI g m)[j]? = some u → (w3.alloc (.cells #[] 2)).cell? (bd.add j) = some u) := Lib.hid (fun bd e => by have := HN3.out.later HF3.out; rw [e] at this; exact this.news)
  have A4 : Hid (∀ v' w', w'.ownsRow w3.heap.size 2 1 v' m (rowI g m) → (w3.alloc (.cells #[] 2)).grownBy w' (Value.slice (some ⟨w3.heap.size, 0, none⟩) 0 0).ownBlock → Ahead w1 w' n f m g (.slice (some ⟨mg, 0, none⟩) (n + 1) mcap) v') := Lib.hid (fun v' w' hown hgrow => by
    obtain ⟨np, nc, rfl, hna, hnc, hncm⟩ := nums_own hown
    refine ⟨⟨mg, mcap, np, nc, rfl, rfl, hnc, hncm, hna, fun a ha => ?_, (HO3.out.alloc _).kept hgrow (Or.inr ?_)⟩, (HB3.out.alloc HB3.out.size _).grown hgrow ?_ (fun b hb => ?_)⟩
    · have h1 := (hown.lt a.block (by rw [ha]; rfl)).1
      have := HL3.out
      omega
    · intro e
      have e' : mg = w3.heap.size := Option.some.inj e
      have := HL3.out
      omega
    · have := HB3.out.size
      simp
      omega
    · have h1 := (HOW3.out.lt b hb).1
      have := HB3.out.size
      omega)
  clear hown3 hgrow3 HO2 HB2 HL2 HN2 HF3
  go_wp2_with (at_builtin; refine wpList_append_opt _ rfl _ _ 26 rfl w3.heap.size 2 j0 (.int .i64 0) 1 8 Tryd.underlying26 hj hy0 hy1 hy2 rfl (by decide) _ _ _ rfl HOW3.out q m mc (rowI g m) rfl (rowI_len g m) HQNIL.out A3.out rowI_one hb2.out.1 hb2.out.2 (by simp) ?_)
  intro v4 w4 hown4 hgrow4
  have HAH := Lib.hid (A4.out v4 w4 hown4 hgrow4)
  clear hown4 hgrow4 A3 A4 HOW3 HN3 HL3 HB3 HO3
  obtain ⟨⟨mg', mc', np, nc, e1, rfl, hnc, hncm, hna, hne, hown⟩, hb⟩ := HAH.out
  cases e1
  have hbs : Below w1.heap.size w1 w4 := hb
  have HS4 : Hid (Sit w w1 mg mcap n p q np pp pn pc m f g ks kd w4) := Lib.hid ⟨B1.out.trans (hb.mono B1.out.size), hb, stays_below hb _ _ _ S0.out, stays_below hb _ _ _ S1.out, V1.out.below hb, N1.out.below hb, hna, K1.out.below hb, hown⟩
  have HNC := Lib.hid (And.intro hnc hncm)
  have HNE := Lib.hid hne
  have HMG : Hid (n + 1 ≤ mcap ∧ mcap ≤ maxLen ∧ w1.heap.size ≤ mg ∧ mg < w4.heap.size) := Lib.hid (by
    refine ⟨?_, ?_, (hown.lt mg rfl).1, (hown.lt mg rfl).2⟩
    · rcases hown.2 with ⟨e, _⟩ | ⟨_, _, _, e, _, _, h1, h2, _⟩
      · cases e
      · cases e; exact h1
    · rcases hown.2 with ⟨e, _⟩ | ⟨_, _, _, e, _, _, h1, h2, _⟩
      · cases e
      · cases e; exact h2)
  clear HAH hbs hb hna hown hnc hncm hne S0 S1 V1 N1 K1
  have C7 : Hid (∀ X, Sit w w1 mg mcap n p q np pp pn pc m f g ks kd X → Calls Tryd.prog 7 #[.string name, .agg #[.slice pp pn pc, .int .i64 kd], .slice (some ⟨mg, 0, none⟩) n mcap, .slice np m nc, .int .i64 kq] X (CallOut name n f (ansV kd (scr g m kq)) (fitsV n pn f ks) X)) := Lib.hid (fun X h => call_all name pp np ⟨mg, 0, none⟩ pn pc n mcap m nc ks g kd kq f HP.out.1 HP.out.2 (by have := HMG.out; omega) HMG.out.2.1 (by have := HN.out; omega) HNC.out.1 HNC.out.2 X h.k h.mine h.nq)
  have C8 : Hid (∀ X, Sit w w1 mg mcap n p q np pp pn pc m f g ks kd X → Calls Tryd.prog 8 #[.string name, .agg #[.slice pp pn pc, .int .i64 kd], .slice p n cap, .slice q m mc, .int .i64 kq] X (CallOut name n f (ansV kd (scr g m kq)) (fitsV n pn f ks) X)) := Lib.hid (fun X h => callR_all name pp p q pn pc n cap m mc ks g kd kq f HP.out.1 HP.out.2 HN.out.1 HN.out.2.1 (by have := HN.out; omega) HNIL.out HM.out.1 HM.out.2.1 X h.k h.v h.q)
  have C11 : Hid (∀ X, NumsAt X np m g → Calls Tryd.prog 11 #[.int .i64 kd, .slice np m nc, .int .i64 kq] X fun e X' => e = .returned (.agg #[.int .i64 (ansV kd (scr g m kq)).k, .int .u64 (ansV kd (scr g m kq)).n, .int .i64 (ansV kd (scr g m kq)).b]) ∧ Fresh X X') := Lib.hid (fun X h => answer_11 kd kq np m nc g HNC.out.1 HNC.out.2 X h)
  have C12 : Hid (∀ X, NumsAt X q m g → Calls Tryd.prog 12 #[.int .i64 kd, .slice q m mc, .int .i64 kq] X fun e X' => e = .returned (.agg #[.int .i64 (ansV kd (scr g m kq)).k, .int .u64 (ansV kd (scr g m kq)).n, .int .i64 (ansV kd (scr g m kq)).b]) ∧ Fresh X X') := Lib.hid (fun X h => answer_12 kd kq q m mc g HM.out.1 HM.out.2.1 X h)
  have hlen : n ≤ mcap := by have := HMG.out; omega
  have hlen2 : n ≤ n + 1 := by omega
  have hmm : mcap ≤ 9223372036854775807 := HMG.out.2.1
  generalize ansV kd (scr g m kq) = A at *
  generalize fitsV n pn f ks = t at *
  have HS := HS4
  have hzw : w.heap.size < w4.heap.size := cell_lt HS.out.s0
  have hz0 : ¬ w.heap.size = w4.heap.size := by omega
  have HSA : Hid (Sit w w1 mg mcap n p q np pp pn pc m f g ks kd w4.drew) := Lib.hid (HS.out.below (Fresh.refl w4).drew.below)
  have HFB : Hid (Fresh w4 ((w4.alloc (.cells #[.string ⟨#[]⟩, .slice none 0 0, .int .i64 0, .int .u64 0, .int .i64 0] 32)).drew)) := Lib.hid ((Fresh.refl w4).alloc _ _).drew
  have HSB : Hid (Sit w w1 mg mcap n p q np pp pn pc m f g ks kd ((w4.alloc (.cells #[.string ⟨#[]⟩, .slice none 0 0, .int .i64 0, .int .u64 0, .int .i64 0] 32)).drew)) := Lib.hid (HS.out.below HFB.out.below)
  have HRB : Hid (Res w4.heap.size ((w4.alloc (.cells #[.string ⟨#[]⟩, .slice none 0 0, .int .i64 0, .int .u64 0, .int .i64 0] 32)).drew)) := Lib.hid ⟨by simp [go_sem], by simp [go_sem], by simp [go_sem], by simp [go_sem], by simp [go_sem], fun o => World.frozen?_alloc_at _ _ _ o (by simp)⟩
  have SA := Lib.hid (And.intro HSA.out.s0 HSA.out.s1)
  have SB := Lib.hid (And.intro HSB.out.s0 HSB.out.s1)
  go_upto_region 4 with fail
  go_cut [13, 14] (fun s13 s14 wx => s14 = .bool t ∧ Hid (EvOut w4 ⟨evNm t name, none, evN t n, 0, f, evA t A⟩ s13 wx))
  case first =>
    go_region_held3 (fun w' => w'.cell? ⟨w.heap.size, 0, none⟩ = some (.slice pp pn pc) ∧ w'.cell? ⟨w.heap.size, 1, none⟩ = some (.int .i64 kd)) (first | with_reducible exact SA.out | with_reducible exact SB.out | with_reducible exact S5.out | with_reducible exact ⟨((Fresh.refl w5).alloc _ _).at' S5.out.1, ((Fresh.refl w5).alloc _ _).at' S5.out.2⟩ | (simp [go_sem, hz0]; first | with_reducible exact S5.out | with_reducible exact SA.out)) (first | (go_at_call 7; (with_reducible refine (C7.out _ HSA.out).mono ?_); rintro e w5 ⟨⟨pa, ca, rfl, ho⟩, hb⟩; have HO := Lib.hid (ho.low HSA.out.b.size); have HO2 := Lib.hid ho; have HBW := Lib.hid hb; have S5 := Lib.hid (And.intro (stays_below hb _ _ _ SA.out.1) (stays_below hb _ _ _ SA.out.2)); clear ho hb) | (go_at_call 7; (with_reducible refine (C7.out _ HSB.out).mono ?_); rintro e w5 ⟨⟨pa, ca, rfl, ho⟩, hb⟩; have HO2 := Lib.hid ho; have HBW := Lib.hid hb; have HR5 := Lib.hid (HRB.out.below hb); have S5 := Lib.hid (And.intro (stays_below hb _ _ _ SB.out.1) (stays_below hb _ _ _ SB.out.2)); clear ho hb; obtain ⟨r0, r1, r2, r3, r4, rf⟩ := HR5.out))
    all_goals (go_wp2_with fail; go_meet)
    all_goals (refine ⟨rfl, Lib.hid ?_⟩)
    all_goals first
      | exact evOut_b (E := ⟨evNm t name, none, evN t n, 0, f, evA t A⟩) HBW.out HO2.out HR5.out
      | exact evOut_a (E := ⟨evNm t name, none, evN t n, 0, f, evA t A⟩) ((Fresh.refl w4).drew.below.trans HBW.out) HO2.out
  case rest =>
    obtain ⟨rfl, HC⟩ := hcut
    obtain ⟨c13, pa, ca, rfl, hc1, hc2, hbw, hbx, hou⟩ := HC.out
    have HS5 := Lib.hid (HS4.out.below hbw)
    have HBX := Lib.hid hbx
    have HOU := Lib.hid hou
    have HC13 := Lib.hid (And.intro hc1 hc2)
    have HBW4 := Lib.hid hbw
    clear HC hc1 hc2 hbw hbx hou HSA HFB HSB HRB SA SB HS hz0
    have s0 := HS5.out.s0
    have s1 := HS5.out.s1
    go_wp2_with fail
    clear s0 s1
    go_at_call 8; refine (C8.out _ HS5.out).mono ?_; rintro e w6 ⟨⟨pb, cb, rfl, ho⟩, hb⟩
    have HS6 := Lib.hid (HS5.out.below hb)
    have HBX6 := Lib.hid (HBX.out.below hb)
    have HOU6 := Lib.hid (HOU.out.below hb)
    have HOB6 := Lib.hid (ho.low HBW4.out.size)
    have HW6 : Hid (w4.heap.size ≤ w6.heap.size ∧ c13 < w6.heap.size) := Lib.hid (by have := HBW4.out.size; have := hb.size; have := HC13.out; omega)
    clear ho hb HS5 HBX HOU HBW4 C7 C8
    generalize evNm t name = nm' at *
    generalize evN t n = n' at *
    generalize evA t A = A' at *
    have htt : (t != t) = false := by simp
    go_upto_region 6 with fail
    have HF7 : Hid (Fresh w6 (w6.alloc (.cells #[.string nm', .slice pb n' cb, .int .i64 A'.k, .int .u64 A'.n, .int .i64 A'.b] 32))) := Lib.hid (by (repeat' first | with_reducible exact Fresh.refl _ | with_reducible assumption | with_reducible refine Fresh.alloc ?_ _ _ | with_reducible refine Fresh.drew ?_ | with_reducible refine Fresh.drewN ?_ _ | with_reducible refine Fresh.setCell ?_ ?_ _ | with_reducible refine Fresh.trans ?_ (by assumption) | (simp; done) | (simp; omega)))
    have HT : Hid (Two w4.heap.size c13 w6.heap.size nm' n' f A' pa pb ca cb (w6.alloc (.cells #[.string nm', .slice pb n' cb, .int .i64 A'.k, .int .u64 A'.n, .int .i64 A'.b] 32))) := Lib.hid ⟨HBX6.out.below HF7.out.below, ⟨by simp [go_sem], by simp [go_sem], by simp [go_sem], by simp [go_sem], by simp [go_sem]⟩, HOU6.out.below HF7.out.below, HOB6.out.below HF7.out.below⟩
    have HS7 := Lib.hid (HS6.out.below HF7.out.below)
    clear HF7 HS6 HBX6 HOU6 HOB6
    generalize (w6.alloc (.cells #[.string nm', .slice pb n' cb, .int .i64 A'.k, .int .u64 A'.n, .int .i64 A'.b] 32)) = W7 at *
    generalize w6.heap.size = c15 at *
    have hx1 := HT.out.e1
    have hx2 := HT.out.e2
    obtain ⟨a0, a1, a2, a3, a4⟩ := hx1
    obtain ⟨d0, d1, d2, d3, d4⟩ := hx2
    simp only at a0 a1 a2 a3 a4 d0 d1 d2 d3 d4
    go_wp2_with fail
    go_at_call 9; refine (HT.out.same9).mono ?_; rintro e w8 ⟨rfl, h8⟩
    have HT8 := Lib.hid (HT.out.below h8.below)
    have HS8 := Lib.hid (HS7.out.below h8.below)
    clear a0 a1 a2 a3 a4 d0 d1 d2 d3 d4 h8 HT HS7 htt
    have hl7 := HS8.out.last
    have hlt7 : (n : Int) < (n : Int) + 1 := by omega
    have HAP : Hid (Apart w mg n m p q np w4.heap.size c13 c15) := Lib.hid ⟨by have := HMG.out; have := HZ1.out; omega, HMG.out.2.2.2, HC13.out.1, HW6.out.1, fun a ha hn => by have := HOP.out a ha hn; have := HMG.out; have := HZ1.out; omega, fun a ha hn => by have := HOQ.out a ha hn; have := HMG.out; have := HZ1.out; omega, fun a ha _ => HNE.out a ha⟩
    have HR8 := Lib.hid (Rnd.zero HS8.out HT8.out)
    go_wp2_with fail
    clear hl7 hlt7 HS8 HT8
    go_loopw [70] (fun i wr => ∃ k : Nat, k ≤ n ∧ i = .int .i64 k ∧ Hid (Rnd w w1 mg mcap n p q np m f g kd w4.heap.size c13 c15 nm' n' A' pa pb ca cb k wr)) (fun i _ => n - (intOf i).toNat)
    case atStart => exact ⟨0, by omega, rfl, HR8⟩
    case round =>
      obtain ⟨k, hk, rfl, HR⟩ := hrel
      by_cases hlt : k < n
      · obtain ⟨m0, m1, m2⟩ := HR.out.cells hlt
        obtain ⟨B, off, hpe, hcc⟩ := HR.out.v.resolve_left (by omega)
        subst hpe
        obtain ⟨a0, a1, a2⟩ := hcc k hlt
        have z0 := cell_lt m0
        have z1 := cell_lt a0
        simp only at z0 z1
        have fr := fun o => HR.out.own.frozenAt o
        have HN1 := Lib.hid ((HR.out.below (Fresh.refl wr).drew.below).step hlt HAP.out)
        have hlt' : (k : Int) < (n : Int) := by omega
        have hlt2 : (k : Int) < (n : Int) + 1 := by omega
        clear hcc
        generalize f k = V at *
        obtain ⟨vk, vn, vb⟩ := V
        simp only at m0 m1 m2 a0 a1 a2
        go_upto_region 11 with fail
        go_region
        go_wp2_with fail
        go_roundw
        case rel => exact ⟨k + 1, by omega, by go_num, HN1⟩
        case measure => simp [intOf]; omega
      · obtain rfl : k = n := by omega
        have HRd : Hid (Rnd w w1 mg mcap k p q np m f g kd w4.heap.size c13 c15 nm' n' A' pa pb ca cb k wr.drew) := Lib.hid (HR.out.below (Fresh.refl wr).drew.below)
        clear HR8 HAP
        go_upto_region 15 with fail
        go_region_held3 (fun w' => w'.cell? ⟨c13, 0, none⟩ = some (.string nm') ∧ w'.cell? ⟨c13, 1, none⟩ = some (.slice pa n' ca) ∧ w'.cell? ⟨c13, 2, none⟩ = some (.int .i64 A'.k) ∧ w'.cell? ⟨c13, 3, none⟩ = some (.int .u64 A'.n) ∧ w'.cell? ⟨c13, 4, none⟩ = some (.int .i64 A'.b) ∧ w'.cell? ⟨c15, 0, none⟩ = some (.string nm') ∧ w'.cell? ⟨c15, 1, none⟩ = some (.slice pb n' cb) ∧ w'.cell? ⟨c15, 2, none⟩ = some (.int .i64 A'.k) ∧ w'.cell? ⟨c15, 3, none⟩ = some (.int .u64 A'.n) ∧ w'.cell? ⟨c15, 4, none⟩ = some (.int .i64 A'.b) ∧ w'.cell? ⟨w.heap.size, 1, none⟩ = some (.int .i64 kd)) (first | with_reducible exact HRd.out.all | with_reducible exact HR9.out.all | with_reducible exact HR10.out.all | with_reducible exact HR11.out.all | with_reducible exact HR12.out.all) (first | (go_at_call 9; (with_reducible refine (HRd.out.two.same9).mono ?_); rintro e w9 ⟨rfl, h9⟩; have HR9 := Lib.hid (HRd.out.below h9.below); clear h9) | (go_at_call 10; (with_reducible refine (HR9.out.two.same10).mono ?_); rintro e w10 ⟨rfl, h10⟩; have HR10 := Lib.hid (HR9.out.below h10.below); clear h10) | (go_at_call 11; (with_reducible refine (C11.out _ HR10.out.nq).mono ?_); rintro e w11 ⟨rfl, h11⟩; have HR11 := Lib.hid (HR10.out.below h11.below); clear h11) | (go_at_call 12; (with_reducible refine (C12.out _ HR11.out.q).mono ?_); rintro e w12 ⟨rfl, h12⟩; have HR12 := Lib.hid (HR11.out.below h12.below); clear h12))
        all_goals (go_wp2_with fail)
        all_goals go_returns
        all_goals exact ⟨rfl, HR12.out.b⟩
end Go.Proofs.YtjbflmpnmobngaaDoor
