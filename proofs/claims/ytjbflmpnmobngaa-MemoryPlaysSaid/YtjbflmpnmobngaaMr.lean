/- A memory that is made, and a block in it. -/
import Derived.Test.YtjbflmpnmobngaaMp
import Derived.Test.YtjbflmpnmobngaaMq
namespace Go.Proofs.Ytjbflmpnmobngaa
set_option linter.unusedSimpArgs false
set_option linter.unusedVariables false
open Go.RowKit

def Made (w : World) (e : Ending) (w' : World) : Prop := e = .returned (.pointer (some ⟨w.heap.size + 1, 0, none⟩)) ∧ w' = (w.alloc (.map #[] 0)).alloc (.cells #[.map (some w.heap.size), .int .i64 0] 58)
theorem new_any (w : World) : Calls Try.prog 8 #[] w (Made w) := by
  have hmm := @run_makeMap Try.prog
  go_enter Try.func8, Try.ntmps8
  go_wp2
  go_returns
  exact ⟨by simp, rfl⟩
def blkV (f : Int → Option Nat) (i : Int) : Option Value := (f i).map fun B => .pointer (some ⟨B, 0, none⟩)
def putB (f : Int → Option Nat) (i : Int) (B : Nat) : Int → Option Nat := fun x => if x = i then some B else f x
theorem blkV_put (f : Int → Option Nat) (i : Int) (B : Nat) : blkV (putB f i B) = putF (blkV f) i (.pointer (some ⟨B, 0, none⟩)) := by
  funext x; unfold blkV putB putF
  by_cases h : x = i
  · subst h; simp
  · simp [h]
/-- A memory's own two cells, and which heap's block each live block is. -/
structure MRep (w : World) (M mb N : Nat) (made : Int) (f : Int → Option Nat) : Prop where
  c0 : w.cell? ⟨M, 0, none⟩ = some (.map (some mb))
  c1 : w.cell? ⟨M, 1, none⟩ = some (.int .i64 made)
  mp : MapF Try.prog 3 w mb N (blkV f)
  fr : ∀ o, w.frozen? ⟨M, o, none⟩ = false
  m0 : 0 ≤ made
  fm : ∀ i B, f i = some B → 1 ≤ i ∧ i ≤ made
theorem MRep.mm {w : World} {M mb N : Nat} {made : Int} {f : Int → Option Nat} (h : MRep w M mb N made f) : Mm w M mb N (blkV f) := ⟨h.c0, h.mp⟩
theorem nilmap56 (q : Nat) (w : World) : (binOp .eql 56 (.map (some q)) (.map none)).run Try.prog w = .ok (.bool false) w := by kernel_rfl
theorem alloc_neg (M : Nat) (size : Int) (hs : size < 0) (w : World) : Calls Try.prog 9 #[.pointer (some ⟨M, 0, none⟩), .int .i64 size] w fun e w' => e = .returned (.int .i64 0) ∧ w = w' := by
  go_enter Try.func9, Try.ntmps9
  go_wp2
  go_returns
  exact ⟨rfl, rfl⟩
theorem alloc_big (M : Nat) (size : Int) (h0 : 0 ≤ size) (hs : 16777216 < size) (w : World) : Calls Try.prog 9 #[.pointer (some ⟨M, 0, none⟩), .int .i64 size] w fun e w' => e = .returned (.int .i64 0) ∧ w = w' := by
  go_enter Try.func9, Try.ntmps9
  go_wp2
  go_returns
  exact ⟨rfl, rfl⟩
def noRow : Int → Option Nat := fun _ => none
def noCell : Nat → Int := fun _ => 0
def noPtr : Int → Option (Int × Int × Int) := fun _ => none
/-- A block that is new. -/
theorem BRep.fresh {w w' : World} {size : Int} (h0 : 0 ≤ size) (hs : size ≤ 16777216) (R : Nat) (hR : R = w.heap.size) (hk : w'.heap[R]? = (w.alloc (.cells #[.int .i64 size, .bool false, .map none, .map none] 63)).heap[R]?) :
    BRep w' R size false none none 0 0 noRow noCell noPtr := by
  subst hR
  have key : ∀ (i : Nat) (v : Value), (w.alloc (.cells #[.int .i64 size, .bool false, .map none, .map none] 63)).cell? ⟨w.heap.size, i, none⟩ = some v → w'.cell? ⟨w.heap.size, i, none⟩ = some v := fun i v h => cell_kept h hk
  exact ⟨key 0 _ (by simp [go_sem]), key 1 _ (by simp [go_sem]), key 2 _ (by simp [go_sem]), key 3 _ (by simp [go_sem]), h0, hs, fun _ => rfl, fun _ => rfl, fun p r hr => (by cases hr), fun _ _ _ _ _ => rfl, fun _ => Or.inl rfl⟩
theorem Sep.fresh {w : World} {R : Nat} (hf : ∀ o, w.frozen? ⟨R, o, none⟩ = false) : Sep w R none none noRow :=
  ⟨fun p r h => (by cases h), fun p p' r h => (by cases h), fun q h => (by cases h), fun p r h => (by cases h), fun k hk o => (by
    rcases hk with rfl | hk | hk | ⟨p, hk⟩
    · exact hf o
    · cases hk
    · cases hk
    · cases hk), fun p r h => (by cases h)⟩
def Alloced (M mb N : Nat) (made : Int) (f : Int → Option Nat) (size : Int) (w : World) (e : Ending) (w' : World) : Prop :=
  e = .returned (.int .i64 (made + 1)) ∧ MRep w' M mb (N + 1) (made + 1) (putB f (made + 1) w.heap.size) ∧ BRep w' w.heap.size size false none none 0 0 noRow noCell noPtr ∧ Sep w' w.heap.size none none noRow ∧ w.heap.size < w'.heap.size ∧ Touch (fun k => k = M ∨ k = mb) w w'
set_option maxRecDepth 100000 in
set_option maxHeartbeats 4000000 in
theorem alloc_any (M mb N : Nat) (made : Int) (f : Int → Option Nat) (size : Int) (h0 : 0 ≤ size) (hs : size ≤ 16777216) (hN : N < maxLen) (hmd : made ≤ 2199023255552) (w : World) (h : MRep w M mb N made f) :
    Calls Try.prog 9 #[.pointer (some ⟨M, 0, none⟩), .int .i64 size] w (Alloced M mb N made f size w) := by
  have c0 := h.c0
  have c1 := h.c1
  have fz := h.fr 1
  have yM : M < w.heap.size := cell_lt c0
  have hn := nilmap56 mb w
  have m0 := h.m0
  have HK : Hid (Key (made + 1)) := Lib.hid (Key.mk (by omega) (by omega))
  have hM1 : mb ≠ M := h.mp.ne c0
  have HM : Hid (MapF Try.prog 3 (w.setCell ⟨M, 1, none⟩ (.int .i64 (made + 1))) mb N (blkV f)) := Lib.hid (h.mp.setCell hM1 _)
  obtain ⟨w2, hup, hown2, hturn2⟩ := (HM.out.alloc (.cells #[.int .i64 size, .bool false, .map none, .map none] 63)).drew.store Try.underlying3 Try.underlying56 hN HK.out (.pointer (some ⟨w.heap.size, 0, none⟩))
  have HO2 := Lib.hid hown2
  have HT2 := Lib.hid hturn2
  have HUP := Lib.hid hup
  have HF := Lib.hid h
  have HS : Hid (0 ≤ size ∧ size ≤ 16777216) := Lib.hid ⟨h0, hs⟩
  clear hown2 hturn2 h hN hup
  go_enter Try.func9, Try.ntmps9
  go_upto_region 6 with fail
  have yB3 : M < (w.setCell ⟨M, 1, none⟩ (.int .i64 (made + 1))).heap.size := by simpa using yM
  have k0 : w2.cell? ⟨M, 0, none⟩ = some (.map (some mb)) := by
    refine cell_kept (w := w.setCell ⟨M, 1, none⟩ (.int .i64 (made + 1))) ?_ ((HT2.out.grown.block M (by simp; omega) (by simpa using fun e : M = mb => hM1 e.symm)).trans (Below.heap_alloc _ _ _ yB3))
    rw [World.cell?_setCell_other _ _ _ _ (by simp)]; exact c0
  have k1 : w2.cell? ⟨M, 1, none⟩ = some (.int .i64 (made + 1)) := by
    refine cell_kept (w := w.setCell ⟨M, 1, none⟩ (.int .i64 (made + 1))) ?_ ((HT2.out.grown.block M (by simp; omega) (by simpa using fun e : M = mb => hM1 e.symm)).trans (Below.heap_alloc _ _ _ yB3))
    exact World.cell?_setCell_same _ _ _ c1
  have hup := HUP.out
  go_region_held3 (fun w' => w'.cell? ⟨M, 0, none⟩ = some (.map (some mb)) ∧ w'.cell? ⟨M, 1, none⟩ = some (.int .i64 (made + 1))) (exact ⟨by simp [go_sem, *], by simp [go_sem, *]⟩) (fail)
  all_goals go_wp2
  all_goals go_returns
  all_goals
    have hz : (w.setCell ⟨M, 1, none⟩ (.int .i64 (made + 1))).heap.size = w.heap.size := by simp
    have t1 : Touch (fun k => k = M ∨ k = mb) w (((w.setCell ⟨M, 1, none⟩ (.int .i64 (made + 1))).alloc (.cells #[.int .i64 size, .bool false, .map none, .map none] 63)).drew) := (((Touch.refl _ w).setCell (p := ⟨M, 1, none⟩) (Or.inl (Or.inl rfl)) (.int .i64 (made + 1))).alloc _ _).drew
    have t2 := t1.turned HT2.out (Or.inl (Or.inr rfl))
    have hmb : mb < w.heap.size := HF.out.mp.lt
    have kR : w2.heap[w.heap.size]? = ((w.setCell ⟨M, 1, none⟩ (.int .i64 (made + 1))).alloc (.cells #[.int .i64 size, .bool false, .map none, .map none] 63)).heap[w.heap.size]? := HT2.out.grown.block _ (by simp) (by simp; omega)
    refine ⟨rfl, ⟨k0, k1, by rw [blkV_put]; exact HO2.out, fun o => by rw [t2.froz]; exact HF.out.fr o, by omega, fun i B hi => ?_⟩, BRep.fresh HS.out.1 HS.out.2 _ hz.symm kR, Sep.fresh fun o => by rw [t2.froz]; simp [World.frozen?], ?_, t2⟩
    · unfold putB at hi
      by_cases hx : i = made + 1
      · subst hx; omega
      · rw [if_neg hx] at hi
        have := HF.out.fm i B hi
        omega
    · have := HT2.out.grown.size
      simp at this
      omega
end Go.Proofs.Ytjbflmpnmobngaa
