/- A memory beside a row of values of the caller's own. -/
import Derived.Test.YtjbflmpnmobngaaKb
namespace Go.Proofs.Ytjbflmpnmobngaa
set_option linter.unusedSimpArgs false
set_option linter.unusedVariables false
open Go.RowKit

/-- A row of values that lies in block R. -/
structure Row3 (w : World) (R n : Nat) (g : Nat → Int × Int × Int) : Prop where
  size : R < w.heap.size
  c0 : ∀ i, i < n → w.cell? ⟨R, i * 3, none⟩ = some (.int .i64 (g i).1)
  c1 : ∀ i, i < n → w.cell? ⟨R, i * 3 + 1, none⟩ = some (.int .u64 (g i).2.1)
  c2 : ∀ i, i < n → w.cell? ⟨R, i * 3 + 2, none⟩ = some (.int .i64 (g i).2.2)
  fr : ∀ o, w.frozen? ⟨R, o, none⟩ = false
variable {W w w' : World} {M T R n : Nat} {made : Int} {S : Int → Option BS} {l : List (Nat × Int × Int × Int)} {g : Nat → Int × Int × Int}
theorem Row3.keep {F : Nat → Prop} (h : Row3 w R n g) (ht : Touch F w w') (hn : ¬ F R) : Row3 w' R n g :=
  ⟨Nat.lt_of_lt_of_le h.size ht.size, fun i hi => ht.cellOf hn (h.c0 i hi), fun i hi => ht.cellOf hn (h.c1 i hi), fun i hi => ht.cellOf hn (h.c2 i hi), fun o => by rw [ht.froz]; exact h.fr o⟩
theorem Row3.later (h : Row3 w R n g) (hf : Fresh w w') : Row3 w' R n g := h.keep (hf.touch (fun _ => False)) (fun f => f)
def setG (g : Nat → Int × Int × Int) (i : Nat) (v : Int × Int × Int) : Nat → Int × Int × Int := fun j => if j = i then v else g j
theorem Row3.set (h : Row3 w R n g) (i : Nat) (hi : i < n) (a b c : Int) :
    Row3 (((w.setCell ⟨R, i * 3, none⟩ (.int .i64 a)).setCell ⟨R, i * 3 + 1, none⟩ (.int .u64 b)).setCell ⟨R, i * 3 + 2, none⟩ (.int .i64 c)) R n (setG g i (a, b, c)) := by
  have e0 := h.c0 i hi
  have e1 := h.c1 i hi
  have e2 := h.c2 i hi
  refine ⟨by simpa using h.size, fun j hj => ?_, fun j hj => ?_, fun j hj => ?_, fun o => by simpa [go_sem] using h.fr o⟩
  · have f := h.c0 j hj
    by_cases q : j = i
    · subst q
      rw [World.cell?_setCell_other _ _ _ _ (by simp), World.cell?_setCell_other _ _ _ _ (by simp), World.cell?_setCell_same _ _ _ e0]; simp [setG]
    · rw [World.cell?_setCell_other _ _ _ _ (by first | (simp; done) | (simp; omega)), World.cell?_setCell_other _ _ _ _ (by first | (simp; done) | (simp; omega)), World.cell?_setCell_other _ _ _ _ (by first | (simp; done) | (simp; omega)), f]; simp [setG, q]
  · have f := h.c1 j hj
    by_cases q : j = i
    · subst q
      have e1' : (w.setCell ⟨R, j * 3, none⟩ (.int .i64 a)).cell? ⟨R, j * 3 + 1, none⟩ = some (.int .u64 (g j).2.1) := by rw [World.cell?_setCell_other _ _ _ _ (by simp)]; exact e1
      rw [World.cell?_setCell_other _ _ _ _ (by simp), World.cell?_setCell_same _ _ _ e1']; simp [setG]
    · rw [World.cell?_setCell_other _ _ _ _ (by first | (simp; done) | (simp; omega)), World.cell?_setCell_other _ _ _ _ (by first | (simp; done) | (simp; omega)), World.cell?_setCell_other _ _ _ _ (by first | (simp; done) | (simp; omega)), f]; simp [setG, q]
  · have f := h.c2 j hj
    by_cases q : j = i
    · subst q
      have e2' : ((w.setCell ⟨R, j * 3, none⟩ (.int .i64 a)).setCell ⟨R, j * 3 + 1, none⟩ (.int .u64 b)).cell? ⟨R, j * 3 + 2, none⟩ = some (.int .i64 (g j).2.2) := by rw [World.cell?_setCell_other _ _ _ _ (by simp), World.cell?_setCell_other _ _ _ _ (by simp)]; exact e2
      rw [World.cell?_setCell_same _ _ _ e2']; simp [setG]
    · rw [World.cell?_setCell_other _ _ _ _ (by first | (simp; done) | (simp; omega)), World.cell?_setCell_other _ _ _ _ (by first | (simp; done) | (simp; omega)), World.cell?_setCell_other _ _ _ _ (by first | (simp; done) | (simp; omega)), f]; simp [setG, q]
theorem info32' : (Try.prog.info? 32).map (fun i => (i.zero, i.size, i.bytes)) = some (some (.agg #[.int .i64 0, .int .u64 0, .int .i64 0]), 3, 24) := by kernel_rfl
theorem make46 (L : Nat) (hL : L ≤ 64) (w : World) : (Instr.makeSlice 46 (.int .i64 (L : Int)) (.int .i64 (L : Int))).run Try.prog w = .ok (.slice (some ⟨w.heap.size, 0, none⟩) L L) (w.alloc (.cells (madeCells #[.int .i64 0, .int .u64 0, .int .i64 0] (L * 3)) 32)) := by
  obtain ⟨i0, hi, hz0, hz1, hz2⟩ := info_parts info32'
  have := run_makeSlice (P := Try.prog) (w := w) 46 32 i0 (.agg #[.int .i64 0, .int .u64 0, .int .i64 0]) Try.underlying46 hi hz0 .i64 .i64 (L : Int) (L : Int) (by omega) (by omega) (by rw [hz1]; omega) (by rw [hz2]; omega) (by omega)
  rw [hz1] at this
  simpa [Value.cells] using this
theorem Row3.mk0 (w : World) (L : Nat) : Row3 (w.alloc (.cells (madeCells #[.int .i64 0, .int .u64 0, .int .i64 0] (L * 3)) 32)) w.heap.size L (fun _ => (0, 0, 0)) := by
  have key : ∀ j, j < L * 3 → (madeCells #[.int .i64 0, .int .u64 0, .int .i64 0] (L * 3))[j]? = some (#[.int .i64 0, .int .u64 0, .int .i64 0][j % 3]! : Value) := fun j hj => by
    simp [madeCells, hj]
  refine ⟨by simp, fun i hi => ?_, fun i hi => ?_, fun i hi => ?_, fun o => World.frozen?_alloc_new _ _ _ _⟩
  · rw [World.cell?_alloc_new, key _ (by omega), show i * 3 % 3 = 0 by omega]; rfl
  · rw [World.cell?_alloc_new, key _ (by omega), show (i * 3 + 1) % 3 = 1 by omega]; rfl
  · rw [World.cell?_alloc_new, key _ (by omega), show (i * 3 + 2) % 3 = 2 by omega]; rfl

/-- A memory is as it was where what turned is not its own. -/
theorem Mem.kept {L : Nat → Prop} (h : Mem w M T L made S) {R : Nat} (ht : Touch (fun k => k = R) w w') (hR : L R) : Mem w' M T L made S := by
  obtain ⟨mb, N, f, o, h⟩ := h
  have nM : M ≠ R := fun e => h.lM (by rw [e]; exact hR)
  have nmb : mb ≠ R := fun e => h.lmb (by rw [e]; exact hR)
  exact ⟨mb, N, f, o, h.rep.kept (ht.block M h.rep.ltM nM) (ht.block mb h.rep.ltmb nmb), h.nT, h.non, fun i B hi => by
    obtain ⟨s, hs, hB⟩ := h.som i B hi
    exact ⟨s, hs, hB.touched ht fun k hk e => (h.own i B hi k hk).2.2 (by rw [e]; exact hR)⟩, h.apart, h.own, h.lM, h.lmb, fun k hk => Nat.lt_of_lt_of_le (h.lt k hk) ht.size⟩
/-- A memory M, values of the caller's own in blocks l, a row of them in block R. -/
structure EnvR (W w : World) (M T : Nat) (made : Int) (S : Int → Option BS) (l : List (Nat × Int × Int × Int)) (R n : Nat) (g : Nat → Int × Int × Int) : Prop where
  mem : Mem w M T (fun k => k < W.heap.size ∨ (∃ x ∈ l, x.1 = k) ∨ k = R) made S
  own : ∀ x ∈ l, Own w x.1 x.2.1 x.2.2.1 x.2.2.2
  row : Row3 w R n g
  fr : Touch (fun k => W.heap.size ≤ k) W w
  ne : ∀ x ∈ l, x.1 ≠ R
  ge : W.heap.size ≤ R
theorem EnvR.fresh (h : EnvR W w M T made S l R n g) (hf : Fresh w w') : EnvR W w' M T made S l R n g :=
  ⟨h.mem.later hf, fun x hx => (h.own x hx).later hf, h.row.later hf, h.fr.fresh hf, h.ne, h.ge⟩
theorem EnvR.drew (h : EnvR W w M T made S l R n g) : EnvR W w.drew M T made S l R n g := h.fresh (Fresh.refl w).drew
theorem EnvR.out (h : EnvR W w M T made S l R n g) : Fresh W w := Touch.fresh_of (Fresh.refl W) h.fr (fun _ h => h)
theorem EnvR.mono (h : EnvR W w M T made S l R n g) {T' : Nat} (hT : T ≤ T') : EnvR W w M T' made S l R n g := ⟨h.mem.mono hT, h.own, h.row, h.fr, h.ne, h.ge⟩
theorem EnvR.leaves (h : EnvR W w M T made S l R n g) {T' : Nat} {made' : Int} {S' : Int → Option BS} (hl : Leaves M T' (fun k => k < W.heap.size ∨ (∃ x ∈ l, x.1 = k) ∨ k = R) made' S' w w') : EnvR W w' M T' made' S' l R n g := by
  obtain ⟨hm, ht⟩ := hl
  refine ⟨hm, fun x hx => ?_, h.row.keep ht (fun g => g (Or.inr (Or.inr rfl))), h.fr.trans (ht.mono fun k hk => ?_), h.ne, h.ge⟩
  · have hn : ¬ ¬ (x.1 < W.heap.size ∨ (∃ y ∈ l, y.1 = x.1) ∨ x.1 = R) := fun g => g (Or.inr (Or.inl ⟨x, hx, rfl⟩))
    have hx' := h.own x hx
    exact ⟨Nat.lt_of_lt_of_le hx'.size ht.size, ht.cellOf hn hx'.c0, ht.cellOf hn hx'.c1, ht.cellOf hn hx'.c2⟩
  · exact Nat.le_of_not_lt fun g => hk (Or.inl g)
theorem EnvR.add (h : EnvR W w M T made S l R n g) (k n' b : Int) : EnvR W (w.alloc (.cells #[.int .i64 k, .int .u64 n', .int .i64 b] 32)) M T made S ((w.heap.size, k, n', b) :: l) R n g := by
  have hf : Fresh w (w.alloc (.cells #[.int .i64 k, .int .u64 n', .int .i64 b] 32)) := (Fresh.refl w).alloc _ _
  refine ⟨h.mem.locals hf fun i hi => ?_, fun x hx => ?_, h.row.later hf, h.fr.fresh hf, fun x hx => ?_, h.ge⟩
  · rcases hi with q | ⟨x, hx, q⟩ | q
    · exact Or.inl (Or.inl q)
    · rcases List.mem_cons.1 hx with rfl | hx
      · subst q; exact Or.inr ⟨Nat.le_refl _, by simp⟩
      · exact Or.inl (Or.inr (Or.inl ⟨x, hx, q⟩))
    · exact Or.inl (Or.inr (Or.inr q))
  · rcases List.mem_cons.1 hx with rfl | hx
    · exact Own.new' w k n' b
    · exact (h.own x hx).later hf
  · rcases List.mem_cons.1 hx with rfl | hx
    · exact Nat.ne_of_gt h.row.size
    · exact h.ne x hx
theorem EnvR.c {B : Nat} {k n' b : Int} (h : EnvR W w M T made S l R n g) (hx : (B, k, n', b) ∈ l) : Own w B k n' b := h.own _ hx
theorem EnvR.set (h : EnvR W w M T made S l R n g) (i : Nat) (hi : i < n) (a b c : Int) :
    EnvR W (((w.setCell ⟨R, i * 3, none⟩ (.int .i64 a)).setCell ⟨R, i * 3 + 1, none⟩ (.int .u64 b)).setCell ⟨R, i * 3 + 2, none⟩ (.int .i64 c)) M T made S l R n (setG g i (a, b, c)) := by
  have ht : Touch (fun k => k = R) w (((w.setCell ⟨R, i * 3, none⟩ (.int .i64 a)).setCell ⟨R, i * 3 + 1, none⟩ (.int .u64 b)).setCell ⟨R, i * 3 + 2, none⟩ (.int .i64 c)) :=
    (((Touch.refl (fun k => k = R) w).setCell (p := ⟨R, i * 3, none⟩) (Or.inl rfl) _).setCell (p := ⟨R, i * 3 + 1, none⟩) (Or.inl rfl) _).setCell (p := ⟨R, i * 3 + 2, none⟩) (Or.inl rfl) _
  refine ⟨h.mem.kept ht (Or.inr (Or.inr rfl)), fun x hx => ?_, h.row.set i hi a b c, h.fr.trans (ht.mono fun k hk => by have := h.ge; omega), h.ne, h.ge⟩
  have hx' := h.own x hx
  have hn := h.ne x hx
  exact ⟨Nat.lt_of_lt_of_le hx'.size ht.size, ht.cellOf hn hx'.c0, ht.cellOf hn hx'.c1, ht.cellOf hn hx'.c2⟩
theorem EnvR.start (h : Env W w M T made S l) (L : Nat) : EnvR W (w.alloc (.cells (madeCells #[.int .i64 0, .int .u64 0, .int .i64 0] (L * 3)) 32)) M T made S l w.heap.size L (fun _ => (0, 0, 0)) := by
  have hf : Fresh w (w.alloc (.cells (madeCells #[.int .i64 0, .int .u64 0, .int .i64 0] (L * 3)) 32)) := (Fresh.refl w).alloc _ _
  refine ⟨h.mem.locals hf fun i hi => ?_, fun x hx => (h.own x hx).later hf, Row3.mk0 w L, h.fr.fresh hf, fun x hx => Nat.ne_of_lt (h.own x hx).size, h.out.size⟩
  rcases hi with q | q | q
  · exact Or.inl (Or.inl q)
  · exact Or.inl (Or.inr q)
  · subst q; exact Or.inr ⟨Nat.le_refl _, by simp⟩
theorem EnvR.load (h : EnvR W w M T made S l R n g) (c k n' b : Int) (hb : Key b) (x y z : Int) (t : Bool) (hv : loadS S c k n' b = ((x, y, z), t)) :
    Calls Try.prog 15 #[.pointer (some ⟨M, 0, none⟩), .int .i64 c, .agg #[.int .i64 k, .int .u64 n', .int .i64 b]] w fun e w' => e = .returned (.tuple #[.agg #[.int .i64 x, .int .u64 y, .int .i64 z], .bool t]) ∧ EnvR W w' M T made S l R n g := by
  refine (load_mem h.mem c k n' b hb x y z t hv).mono ?_
  rintro e w' ⟨he, hf⟩
  exact ⟨he, h.fresh hf⟩
theorem EnvR.store (h : EnvR W w M T made S l R n g) (hT : T < maxLen) (c k n1 b k' n' b' : Int) (hb : Key b) (hn : 0 ≤ n') (v : Bool) (hv : (storeS S c k n1 b k' n' b').1 = v) :
    Calls Try.prog 17 #[.pointer (some ⟨M, 0, none⟩), .int .i64 c, .agg #[.int .i64 k, .int .u64 n1, .int .i64 b], .agg #[.int .i64 k', .int .u64 n', .int .i64 b']] w fun e w' => e = .returned (.bool v) ∧ EnvR W w' M (T + 1) made (storeS S c k n1 b k' n' b').2 l R n g := by
  refine (store_mem h.mem hT c k n1 b k' n' b' hb hn v _ (Prod.ext hv rfl)).mono ?_
  rintro e w' ⟨he, hl⟩
  exact ⟨he, h.leaves hl⟩
end Go.Proofs.Ytjbflmpnmobngaa
