/- A page that is laid; a pointer that is laid. -/
import Derived.Test.YtjbflmpnmobngaaMj
import Derived.StillTailTactics
import Derived.Deep.RegionLaw
namespace Go.Proofs.Ytjbflmpnmobngaa
set_option linter.unusedSimpArgs false
set_option linter.unusedVariables false
open Go.RowKit

theorem wp_storeF {P : Program} (w : World) {o : Oper} {a : Act} {K : Act → World → Prop} {Q : Exit → Act → World → Prop} (m x v : Operand) (t : TypeId) (hop : o.op = Op.mapUpdate t m x v) (k e : TypeId) (hk : P.underlying k = some (.int .i64)) (ht : P.underlying t = some (.map k e)) (b n : Nat) (f : Int → Option Value)
    (hm : a.eval m = .map (some b)) (h : MapF P k w b n f) (hn : n < maxLen) (key : Int) (hx : a.eval x = .int .i64 key) (hkey : Key key) (val : Value) (hv : a.eval v = val)
    (hK : ∀ w', MapF P k w' b (n + 1) (putF f key val) → w.mapTurned w' b → K (a.put o.dst undef) w') : Oper.wp P o a w K Q := by
  obtain ⟨w', hrun, r1, r2⟩ := h.store hk ht hn hkey val
  unfold Oper.wp
  simp [execOp, hop, hm, hx, hv, hrun, Result.andThen]
  exact hK w' r1 r2
theorem step_storeF {P : Program} {w : World} {ops : Array Oper} {o : Oper} {a : Act} {K : Act → World → Prop} {Q : Exit → Act → World → Prop} {E : Prop} (hgd : o.guard = none) (m x v : Operand) (t : TypeId) (hop : o.op = Op.mapUpdate t m x v) (k e : TypeId) (hk : P.underlying k = some (.int .i64)) (ht : P.underlying t = some (.map k e)) (b n : Nat) (f : Int → Option Value)
    (hm : a.eval m = .map (some b)) (h : MapF P k w b n f) (hn : n < maxLen) (key : Int) (hx : a.eval x = .int .i64 key) (hkey : Key key) (val : Value) (hv : a.eval v = val)
    (hK : ∀ w', MapF P k w' b (n + 1) (putF f key val) → w.mapTurned w' b → K (a.put o.dst undef) w') : if Region.wanted o (yielded ops a.tmps) = true then Oper.wp P o a w K Q else E := by
  have hw : Region.wanted o (yielded ops a.tmps) = true := by simp [Region.wanted, hgd]
  rw [if_pos hw]
  exact wp_storeF w m x v t hop k e hk ht b n f hm h hn key hx hkey val hv hK
variable {w w' : World} {B : Nat} {sz : Int} {fx : Bool} {pg pt : Option Nat} {n1 n2 T : Nat} {row : Int → Option Nat} {cell : Nat → Int} {ptr : Int → Option (Int × Int × Int)} {own : Nat → Prop}
theorem Own.touched {F : Nat → Prop} {k n b : Int} {B : Nat} (h : Own w B k n b) (hf : Touch F w w') (hn : ¬ F B) : Own w' B k n b :=
  ⟨Nat.lt_of_lt_of_le h.size hf.size, hf.cellOf hn h.c0, hf.cellOf hn h.c1, hf.cellOf hn h.c2⟩
theorem nilmap61 (q : Nat) (w : World) : (binOp .eql 61 (.map (some q)) (.map none)).run Try.prog w = .ok (.bool false) w := by kernel_rfl
theorem nilmap61' (w : World) : (binOp .eql 61 (.map none) (.map none)).run Try.prog w = .ok (.bool true) w := by kernel_rfl
set_option maxRecDepth 100000 in
set_option maxHeartbeats 2000000 in
theorem point_some (o : Int) (off q : Nat) (ho : o = (off : Int)) (x y z : Int) (hin : off % 4096 + 8 ≤ 4096) (hoff : (off : Int) + 8 ≤ sz) (hT : n2 < maxLen) (h : BRep w B sz fx pg (some q) n1 n2 row cell ptr) (hS : Sep w B pg (some q) row) :
    Calls Try.prog 43 #[.pointer (some ⟨B, 0, none⟩), .int .i64 o, .agg #[.int .i64 x, .int .u64 y, .int .i64 z]] w (Emptied B sz fx pg (some q) n1 (n2 + 1) row (emptyC cell off 8) (putP (delP ptr (o - o % 8)) o (x, y, z)) w) := by
  have hkey : Key o := Key.mk (by omega) (by have := h.s1; omega)
  have HK := Lib.hid hkey
  have HT := Lib.hid hT
  have hf := (Fresh.refl w).alloc #[.int .i64 x, .int .u64 y, .int .i64 z] 32
  have HE := Lib.hid (empty_int o off 8 ho (by omega) hin hoff (by omega) (h.later hf) (hS.kept (fun k hk => hf.below.block k (owns_lt h hS hk)) hf.size))
  have HO : Hid (∀ k, (some q = some k ∨ ∃ p, row p = some k) → k < w.heap.size) := Lib.hid (fun k hk => owns_lt h hS (by rcases hk with e | e; exact Or.inr (Or.inr (Or.inl e)); exact Or.inr (Or.inr (Or.inr e))))
  clear h hS hkey ho hin hoff hT hf
  go_enter Try.func43, Try.ntmps43
  go_wp2_with (go_at_call 42; refine HE.out.mono ?_; rintro e w1 ⟨rfl, r1, r2, r3⟩; have RB := Lib.hid r1; have RS := Lib.hid r2; have c3 := r1.c3; have hn := nilmap61 q w1; have o5 := own_cells ((Own.new' w x y z).touched r3 (fun hk => absurd (HO.out _ hk) (by omega))); obtain ⟨a5, b5, d5⟩ := o5; clear r1 r2)
  have hmap : MapF Try.prog 3 w1.drew q n2 (ptrV (delP ptr (o - o % 8))) := MapF.drew RB.out.pts
  have HM := Lib.hid hmap
  clear hmap
  go_still_tail 6, (by kernel_rfl)
  change wpList _ _ _ _ _ w1.drew
  refine wpList_storeF _ rfl _ _ _ 61 rfl 3 32 Try.underlying3 Try.underlying61 q n2 _ rfl HM.out HT.out o rfl HK.out (.agg #[.int .i64 x, .int .u64 y, .int .i64 z]) rfl ?_
  intro w2 hown2 hturn2
  go_wp2
  go_returns
  obtain ⟨q1, q2⟩ := (RB.out.later (Fresh.refl w1).drew).ptrs (RS.out.kept (w' := w1.drew) (fun k hk => rfl) (Nat.le_refl _)) hturn2 (ptr' := putP (delP ptr (o - o % 8)) o (x, y, z)) (n' := n2 + 1) (by rw [ptrV_put]; exact hown2)
  refine ⟨rfl, q1, q2, ?_⟩
  have f0 : Touch (fun k => some q = some k ∨ ∃ p, row p = some k) w w1 := (((Fresh.refl w).alloc #[.int .i64 x, .int .u64 y, .int .i64 z] 32).touch _).trans r3
  exact f0.drew.turned hturn2 (Or.inl (Or.inl rfl))
theorem heap_alloc_new (w : World) (ob : Obj) : (w.alloc ob).heap[w.heap.size]? = some ob := by
  show (w.heap.push ob)[w.heap.size]? = _
  simp
/-- A map of pointers is made. -/
theorem BRep.mkpt (h : BRep w B sz fx pg none n1 n2 row cell ptr) (hS : Sep w B pg none row) (hpg : pg ≠ some w.heap.size) :
    BRep ((w.alloc (.map #[] 0)).setCell ⟨B, 3, none⟩ (.map (some w.heap.size))) B sz fx pg (some w.heap.size) n1 0 row cell ptr ∧ Sep ((w.alloc (.map #[] 0)).setCell ⟨B, 3, none⟩ (.map (some w.heap.size))) B pg (some w.heap.size) row ∧
      Touch (fun k => k = B) w ((w.alloc (.map #[] 0)).setCell ⟨B, 3, none⟩ (.map (some w.heap.size))) := by
  have hB : B < w.heap.size := cell_lt h.c0
  have t1 : Touch (fun k => k = B) w (w.alloc (.map #[] 0)) := ⟨rfl, rfl, rfl, by simp, fun k hk _ => Below.heap_alloc _ _ _ hk, fun a => frozen?_alloc_map w _ _ a⟩
  have t2 : Touch (fun k => k = B) w ((w.alloc (.map #[] 0)).setCell ⟨B, 3, none⟩ (.map (some w.heap.size))) := t1.setCell (Or.inl rfl) _
  have ka : ∀ k, k < w.heap.size → (w.alloc (.map #[] 0)).heap[k]? = w.heap[k]? := fun k hk => Below.heap_alloc _ _ _ hk
  have ks : ∀ k, k ≠ B → ((w.alloc (.map #[] 0)).setCell ⟨B, 3, none⟩ (.map (some w.heap.size))).heap[k]? = (w.alloc (.map #[] 0)).heap[k]? := fun k hk => Below.heap_setCell _ _ _ _ hk
  have key : ∀ k, k < w.heap.size → k ≠ B → ((w.alloc (.map #[] 0)).setCell ⟨B, 3, none⟩ (.map (some w.heap.size))).heap[k]? = w.heap[k]? := fun k hk hn => (ks k hn).trans (ka k hk)
  have co : ∀ (i : Nat) (v : Value), i ≠ 3 → w.cell? ⟨B, i, none⟩ = some v → ((w.alloc (.map #[] 0)).setCell ⟨B, 3, none⟩ (.map (some w.heap.size))).cell? ⟨B, i, none⟩ = some v := fun i v hi hv => by
    rw [World.cell?_setCell_other _ _ _ _ (by simp; try omega)]; exact cell_kept hv (ka B hB)
  have c3' : ((w.alloc (.map #[] 0)).setCell ⟨B, 3, none⟩ (.map (some w.heap.size))).cell? ⟨B, 3, none⟩ = some (.map (some w.heap.size)) := World.cell?_setCell_same _ _ _ (cell_kept h.c3 (ka B hB))
  have hne : w.heap.size ≠ B := by omega
  have hm : MapF Try.prog 3 ((w.alloc (.map #[] 0)).setCell ⟨B, 3, none⟩ (.map (some w.heap.size))) w.heap.size 0 (ptrV ptr) := by
    have e : ptrV ptr = fun _ => none := by funext x; exact h.pts x
    rw [e]
    exact (MapF.made w Try.prog 3).block (ks _ hne)
  have kr : ∀ p r, row p = some r → ((w.alloc (.map #[] 0)).setCell ⟨B, 3, none⟩ (.map (some w.heap.size))).heap[r]? = w.heap[r]? := fun p r hr => key r (hS.rl p r hr).1 (hS.rB p r hr)
  refine ⟨⟨co 0 _ (by decide) h.c0, co 1 _ (by decide) h.c1, co 2 _ (by decide) h.c2, c3', h.s0, h.s1, h.pgs.kept fun b hb => key b (h.pgs.lt hb) (fun e => by have hp := h.pgs; rw [hb] at hp; exact MapF.ne hp h.c0 e), hm,
    fun p r hr i hi => cell_kept (h.rws p r hr i hi) (kr p r hr), h.non, h.rng⟩, ⟨hS.rB, hS.rr, fun x hx e => hpg (by injection e with e; rw [e]; exact hx), fun p r hr => ⟨Nat.lt_of_lt_of_le (hS.rl p r hr).1 t2.size, by rw [kr p r hr]; exact (hS.rl p r hr).2⟩, fun k hk o => ?_, hS.rp⟩, t2⟩
  rw [t2.froz]
  rcases hk with rfl | hk | hk | hk
  · exact hS.fr k (Or.inl rfl) o
  · exact hS.fr k (Or.inr (Or.inl hk)) o
  · injection hk with hk
    subst hk
    simp [World.frozen?]
  · exact hS.fr k (Or.inr (Or.inr (Or.inr hk))) o
def Pointed (B : Nat) (sz : Int) (fx : Bool) (pg : Option Nat) (n1 N : Nat) (row : Int → Option Nat) (cell' : Nat → Int) (ptr' : Int → Option (Int × Int × Int)) (F : Nat → Prop) (w : World) (e : Ending) (w' : World) : Prop :=
  e = .returned (.tuple #[]) ∧ ∃ q n2', n2' ≤ N + 1 ∧ (F q ∨ w.heap.size ≤ q) ∧ BRep w' B sz fx pg (some q) n1 n2' row cell' ptr' ∧ Sep w' B pg (some q) row ∧ Touch F w w'
set_option maxRecDepth 100000 in
set_option maxHeartbeats 2000000 in
theorem point_none (o : Int) (off : Nat) (ho : o = (off : Int)) (x y z : Int) (hin : off % 4096 + 8 ≤ 4096) (hoff : (off : Int) + 8 ≤ sz) (h : BRep w B sz fx pg none n1 n2 row cell ptr) (hS : Sep w B pg none row) :
    Calls Try.prog 43 #[.pointer (some ⟨B, 0, none⟩), .int .i64 o, .agg #[.int .i64 x, .int .u64 y, .int .i64 z]] w (Pointed B sz fx pg n1 0 row (emptyC cell off 8) (putP (delP ptr (o - o % 8)) o (x, y, z)) (owns B pg none row) w) := by
  have hkey : Key o := Key.mk (by omega) (by have := h.s1; omega)
  have HK := Lib.hid hkey
  have hf := (Fresh.refl w).alloc #[.int .i64 x, .int .u64 y, .int .i64 z] 32
  have HE := Lib.hid (empty_int o off 8 ho (by omega) hin hoff (by omega) (h.later hf) (hS.kept (fun k hk => hf.below.block k (owns_lt h hS hk)) hf.size))
  have HO : Hid (∀ k, owns B pg none row k → k < w.heap.size) := Lib.hid (fun k hk => owns_lt h hS hk)
  clear h hS hkey ho hin hoff hf
  have hmm := @run_makeMap Try.prog
  go_enter Try.func43, Try.ntmps43
  go_wp2_with (go_at_call 42; refine HE.out.mono ?_; rintro e w1 ⟨rfl, r1, r2, r3⟩; have r3 := r3.mono (G := owns B pg none row) (fun k hk => by rcases hk with hk | hk; cases hk; exact Or.inr (Or.inr (Or.inr hk))); have RB := Lib.hid r1; have RS := Lib.hid r2; have c3 := r1.c3; have hn := nilmap61' w1; have o5 := own_cells ((Own.new' w x y z).touched r3 (fun hk => absurd (HO.out _ hk) (by omega))); obtain ⟨a5, b5, d5⟩ := o5; have yB := cell_lt c3; have z5 := cell_lt a5; have fz := r2.fr B (Or.inl rfl) 3; clear r1 r2)
  have hpg : pg ≠ some w1.heap.size := fun e => by have := RB.out.pgs.lt e; omega
  obtain ⟨m1, m2, m3⟩ := RB.out.mkpt RS.out hpg
  rw [World.setCell_alloc_past _ _ _ _ yB] at m1 m2 m3
  have HM1 := Lib.hid m1
  have HM2 := Lib.hid m2
  have HM3 := Lib.hid m3
  have c3' := m1.c3
  have zz : ¬ (w.heap.size = B) := fun e => by have := HO.out B (Or.inl rfl); omega
  have a5' := m3.cellOf zz a5
  have b5' := m3.cellOf zz b5
  have d5' := m3.cellOf zz d5
  have hq : w.heap.size ≤ w1.heap.size := by have := r3.size; simp at this; omega
  clear m1 m2 m3 c3 a5 b5 d5 fz hn hmm zz
  generalize hW3 : (w1.setCell ⟨B, 3, none⟩ (.map (some w1.heap.size))).alloc (.map #[] 0) = w3 at *
  clear hW3
  generalize w1.heap.size = q at *
  have hmap : MapF Try.prog 3 w3.drew q 0 (ptrV (delP ptr (o - o % 8))) := MapF.drew HM1.out.pts
  have HM := Lib.hid hmap
  clear hmap
  go_still_tail 6, (by kernel_rfl)
  change wpList _ _ _ _ _ w3.drew
  refine wpList_storeF _ rfl _ _ _ 61 rfl 3 32 Try.underlying3 Try.underlying61 q 0 _ rfl HM.out (by unfold maxLen; omega) o rfl HK.out (.agg #[.int .i64 x, .int .u64 y, .int .i64 z]) rfl ?_
  intro w2 hown2 hturn2
  go_wp2
  go_returns
  obtain ⟨q1, q2⟩ := (HM1.out.later (Fresh.refl w3).drew).ptrs (HM2.out.kept (w' := w3.drew) (fun k hk => rfl) (Nat.le_refl _)) hturn2 (ptr' := putP (delP ptr (o - o % 8)) o (x, y, z)) (n' := 0 + 1) (by rw [ptrV_put]; exact hown2)
  have f0 : Touch (owns B pg none row) w w1 := (((Fresh.refl w).alloc #[.int .i64 x, .int .u64 y, .int .i64 z] 32).touch _).trans r3
  exact ⟨rfl, q, 1, by omega, Or.inr hq, q1, q2, (f0.trans (HM3.out.mono fun k hk => Or.inl hk)).drew.turned hturn2 (Or.inr hq)⟩
end Go.Proofs.Ytjbflmpnmobngaa
