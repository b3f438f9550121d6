/- A page that is laid in a block that has none. -/
import Derived.Test.YtjbflmpnmobngaaMl
namespace Go.Proofs.Ytjbflmpnmobngaa
set_option linter.unusedSimpArgs false
set_option linter.unusedVariables false
open Go.RowKit

variable {w w' : World} {B : Nat} {sz : Int} {fx : Bool} {pg pt : Option Nat} {n1 n2 T : Nat} {row : Int → Option Nat} {cell : Nat → Int} {ptr : Int → Option (Int × Int × Int)} {own : Nat → Prop}
/-- A map of pages is made. -/
theorem BRep.mkpg (h : BRep w B sz fx none pt n1 n2 row cell ptr) (hS : Sep w B none pt row) (hpt : pt ≠ some w.heap.size) :
    BRep ((w.alloc (.map #[] 0)).setCell ⟨B, 2, none⟩ (.map (some w.heap.size))) B sz fx (some w.heap.size) pt 0 n2 row cell ptr ∧ Sep ((w.alloc (.map #[] 0)).setCell ⟨B, 2, none⟩ (.map (some w.heap.size))) B (some w.heap.size) pt row ∧
      Touch (fun k => k = B) w ((w.alloc (.map #[] 0)).setCell ⟨B, 2, none⟩ (.map (some w.heap.size))) := by
  have hB : B < w.heap.size := cell_lt h.c0
  have t1 : Touch (fun k => k = B) w (w.alloc (.map #[] 0)) := ⟨rfl, rfl, rfl, by simp, fun k hk _ => Below.heap_alloc _ _ _ hk, fun a => frozen?_alloc_map w _ _ a⟩
  have t2 : Touch (fun k => k = B) w ((w.alloc (.map #[] 0)).setCell ⟨B, 2, none⟩ (.map (some w.heap.size))) := t1.setCell (Or.inl rfl) _
  have ka : ∀ k, k < w.heap.size → (w.alloc (.map #[] 0)).heap[k]? = w.heap[k]? := fun k hk => Below.heap_alloc _ _ _ hk
  have ks : ∀ k, k ≠ B → ((w.alloc (.map #[] 0)).setCell ⟨B, 2, none⟩ (.map (some w.heap.size))).heap[k]? = (w.alloc (.map #[] 0)).heap[k]? := fun k hk => Below.heap_setCell _ _ _ _ hk
  have key : ∀ k, k < w.heap.size → k ≠ B → ((w.alloc (.map #[] 0)).setCell ⟨B, 2, none⟩ (.map (some w.heap.size))).heap[k]? = w.heap[k]? := fun k hk hn => (ks k hn).trans (ka k hk)
  have co : ∀ (i : Nat) (v : Value), i ≠ 2 → w.cell? ⟨B, i, none⟩ = some v → ((w.alloc (.map #[] 0)).setCell ⟨B, 2, none⟩ (.map (some w.heap.size))).cell? ⟨B, i, none⟩ = some v := fun i v hi hv => by
    rw [World.cell?_setCell_other _ _ _ _ (by simp; try omega)]; exact cell_kept hv (ka B hB)
  have c2' : ((w.alloc (.map #[] 0)).setCell ⟨B, 2, none⟩ (.map (some w.heap.size))).cell? ⟨B, 2, none⟩ = some (.map (some w.heap.size)) := World.cell?_setCell_same _ _ _ (cell_kept h.c2 (ka B hB))
  have hne : w.heap.size ≠ B := by omega
  have hm : MapF Try.prog 3 ((w.alloc (.map #[] 0)).setCell ⟨B, 2, none⟩ (.map (some w.heap.size))) w.heap.size 0 (rowV sz row) := by
    have e : rowV sz row = fun _ => none := by funext x; exact h.pgs x
    rw [e]
    exact (MapF.made w Try.prog 3).block (ks _ hne)
  have kr : ∀ p r, row p = some r → ((w.alloc (.map #[] 0)).setCell ⟨B, 2, none⟩ (.map (some w.heap.size))).heap[r]? = w.heap[r]? := fun p r hr => key r (hS.rl p r hr).1 (hS.rB p r hr)
  refine ⟨⟨co 0 _ (by decide) h.c0, co 1 _ (by decide) h.c1, c2', co 3 _ (by decide) h.c3, h.s0, h.s1, hm, h.pts.kept fun b hb => key b (h.pts.lt hb) (fun e => by have hp := h.pts; rw [hb] at hp; exact MapF.ne hp h.c0 e),
    fun p r hr i hi => cell_kept (h.rws p r hr i hi) (kr p r hr), h.non, h.rng⟩, ⟨hS.rB, hS.rr, fun x hx e => hpt (by injection hx with hx; rw [hx]; exact e), fun p r hr => ⟨Nat.lt_of_lt_of_le (hS.rl p r hr).1 t2.size, by rw [kr p r hr]; exact (hS.rl p r hr).2⟩, fun k hk o => ?_, fun p r hr => ⟨(hS.rp p r hr).1, by simp⟩⟩, t2⟩
  rw [t2.froz]
  rcases hk with rfl | hk | hk | hk
  · exact hS.fr k (Or.inl rfl) o
  · injection hk with hk
    subst hk
    simp [World.frozen?]
  · exact hS.fr k (Or.inr (Or.inr (Or.inl hk))) o
  · exact hS.fr k (Or.inr (Or.inr (Or.inr hk))) o
set_option maxRecDepth 100000 in
set_option maxHeartbeats 4000000 in
theorem page0_full (p : Int) (hp0 : 0 ≤ p) (hp1 : 4096 ≤ sz - p * 4096) (h : BRep w B sz fx none pt n1 n2 row cell ptr) (hS : Sep w B none pt row) :
    Calls Try.prog 63 #[.pointer (some ⟨B, 0, none⟩), .int .i64 p] w (Paged B sz fx pt 0 n2 row cell ptr p (owns B none pt row) w) := by
  have c2 := h.c2
  have hr : row p = none := by
    cases hq : row p with
    | none => rfl
    | some r => exact absurd rfl (hS.rp p r hq).2
  have s1 := h.s1
  have hn := nilmap60' w
  have HK : Hid (Key p) := Lib.hid (Key.mk (by omega) (by omega))
  have hpl : plen sz p = 4096 := by unfold plen; omega
  have HPL := Lib.hid hpl
  have eX : IntKind.i64.wrap (sz - IntKind.i64.wrap (p * 4096)) = sz - p * 4096 := by have hz := h.s0; rw [i64w (p * 4096) (by omega) (by omega), i64w (sz - p * 4096) (by omega) (by omega)]
  generalize sz - p * 4096 = X at eX hp1
  have hX : ¬ X < 4096 := by omega
  have HR := Lib.hid hr
  have H0 := Lib.hid hp0
  have HL4 : Hid (4096 ≤ 4096) := Lib.hid (by omega)
  have hpt : pt ≠ some w.heap.size := fun e => by have := h.pts.lt e; omega
  have yB : B < w.heap.size := cell_lt h.c0
  have fz := hS.fr B (Or.inl rfl) 2
  obtain ⟨m1, m2, m3⟩ := h.mkpg hS hpt
  rw [World.setCell_alloc_past _ _ _ _ yB] at m1 m2 m3
  have HM1 := Lib.hid m1
  have HM2 := Lib.hid m2
  have HM3 := Lib.hid m3
  clear m1 m2 m3 h hS hr hpl hp0 hpt
  have hmm := @run_makeMap Try.prog
  go_enter Try.func63, Try.ntmps63
  go_upto_region 3 with fail
  generalize hW3 : (w.setCell ⟨B, 2, none⟩ (.map (some w.heap.size))).alloc (.map #[] 0) = w3 at *
  clear hW3 hmm hn c2 fz
  have hq0 : Hid (w.heap.size ≤ w.heap.size) := Lib.hid (Nat.le_refl _)
  generalize hwq : w.heap.size = q at *
  have HWQ := Lib.hid hwq
  clear hwq
  have c2 := HM1.out.c2
  have c0 := HM1.out.c0
  have hm := nil94 w3
  have hl := look_none HM1.out HR.out HK.out
  have HM : Hid (MapF Try.prog 3 w3 q 0 (rowV sz row)) := Lib.hid HM1.out.pgs
  have hmk : ∀ w : World, (Instr.makeSlice 94 (.int .i64 4096) (.int .i64 4096)).run Try.prog w = .ok (.slice (some ⟨w.heap.size, 0, none⟩) 4096 4096) (w.alloc (.cells (madeCells #[.int .u16 0] 4096) 96)) := fun w => make94 4096 HL4.out w
  have yB3 : B < w3.heap.size := cell_lt c0
  obtain ⟨w2, hup, hown2, hturn2⟩ := (HM.out.alloc (.cells (madeCells #[.int .u16 0] 4096) 96)).drew.store Try.underlying3 Try.underlying60 (by unfold maxLen; omega) HK.out (.slice (some ⟨w3.heap.size, 0, none⟩) 4096 4096)
  have HO2 := Lib.hid hown2
  have HT2 := Lib.hid hturn2
  have hqB : ¬ (B = q) := (MapF.ne HM.out c0).symm
  have kB : w2.heap[B]? = w3.heap[B]? := (hturn2.grown.block B (by simp; omega) (by simpa using hqB)).trans (Below.heap_alloc _ _ _ yB3)
  have k2 := cell_kept c2 kB
  have k0 := cell_kept c0 kB
  have hl2 : (Instr.lookup 60 (.map (some q)) (.int .i64 p) false).run Try.prog w2 = .ok (.slice (some ⟨w3.heap.size, 0, none⟩) 4096 4096) w2 := by
    rw [hown2.look Try.underlying3 Try.underlying60 (zero94 w2) HK.out]
    simp [putF]
  clear hown2 hturn2 kB
  go_upto_region 4 with fail
  go_region_held3 (fun w' => w'.cell? ⟨B, 2, none⟩ = some (.map (some q)) ∧ w'.cell? ⟨B, 0, none⟩ = some (.int .i64 sz)) (exact ⟨by simp [go_sem, *], by simp [go_sem, *]⟩) (fail)
  all_goals go_wp2
  all_goals go_returns
  all_goals
    obtain ⟨q1, q2, q3⟩ := HM1.out.mkrow HM2.out HR.out H0.out HPL.out HO2.out HT2.out
    have hsz := HM3.out.size
    have hwq := HWQ.out
    refine ⟨q, w3.heap.size, 0 + 1, _, by rw [HPL.out]; rfl, by unfold putRow; rw [if_pos rfl], by omega, fun k hk => ?_, q1, q2, ((HM3.out.mono (G := owns B none pt row) fun k hk => Or.inl hk).trans' q3 fun k hk => Or.inr (by rw [hk, ← hwq]; exact Nat.le_refl _))⟩
    rcases hk with hk | hk | hk | ⟨x, hk⟩
    · exact Or.inl (Or.inl hk)
    · injection hk with hk; exact Or.inr (by omega)
    · exact Or.inl (Or.inr (Or.inr (Or.inl hk)))
    · unfold putRow at hk
      by_cases hxp : x = p
      · rw [if_pos hxp] at hk; injection hk with hk; exact Or.inr (by omega)
      · rw [if_neg hxp] at hk; exact Or.inl (Or.inr (Or.inr (Or.inr ⟨x, hk⟩)))
set_option maxRecDepth 100000 in
set_option maxHeartbeats 4000000 in
theorem page0_part (p : Int) (hp0 : 0 ≤ p) (L : Nat) (hp1 : sz - p * 4096 = (L : Int)) (hL0 : L < 4096) (h : BRep w B sz fx none pt n1 n2 row cell ptr) (hS : Sep w B none pt row) :
    Calls Try.prog 63 #[.pointer (some ⟨B, 0, none⟩), .int .i64 p] w (Paged B sz fx pt 0 n2 row cell ptr p (owns B none pt row) w) := by
  have c2 := h.c2
  have hr : row p = none := by
    cases hq : row p with
    | none => rfl
    | some r => exact absurd rfl (hS.rp p r hq).2
  have s1 := h.s1
  have hn := nilmap60' w
  have HK : Hid (Key p) := Lib.hid (Key.mk (by omega) (by omega))
  have hpl : plen sz p = L := by unfold plen; omega
  have HPL := Lib.hid hpl
  have eX : IntKind.i64.wrap (sz - IntKind.i64.wrap (p * 4096)) = sz - p * 4096 := by have hz := h.s0; rw [i64w (p * 4096) (by omega) (by omega), i64w (sz - p * 4096) (by omega) (by omega)]
  rw [hp1] at eX
  have hX : (L : Int) < 4096 := by omega
  clear hp1
  have HR := Lib.hid hr
  have H0 := Lib.hid hp0
  have HL4 : Hid (L ≤ 4096) := Lib.hid (by omega)
  have hpt : pt ≠ some w.heap.size := fun e => by have := h.pts.lt e; omega
  have yB : B < w.heap.size := cell_lt h.c0
  have fz := hS.fr B (Or.inl rfl) 2
  obtain ⟨m1, m2, m3⟩ := h.mkpg hS hpt
  rw [World.setCell_alloc_past _ _ _ _ yB] at m1 m2 m3
  have HM1 := Lib.hid m1
  have HM2 := Lib.hid m2
  have HM3 := Lib.hid m3
  clear m1 m2 m3 h hS hr hpl hp0 hpt
  have hmm := @run_makeMap Try.prog
  go_enter Try.func63, Try.ntmps63
  go_upto_region 3 with fail
  generalize hW3 : (w.setCell ⟨B, 2, none⟩ (.map (some w.heap.size))).alloc (.map #[] 0) = w3 at *
  clear hW3 hmm hn c2 fz
  have hq0 : Hid (w.heap.size ≤ w.heap.size) := Lib.hid (Nat.le_refl _)
  generalize hwq : w.heap.size = q at *
  have HWQ := Lib.hid hwq
  clear hwq
  have c2 := HM1.out.c2
  have c0 := HM1.out.c0
  have hm := nil94 w3
  have hl := look_none HM1.out HR.out HK.out
  have HM : Hid (MapF Try.prog 3 w3 q 0 (rowV sz row)) := Lib.hid HM1.out.pgs
  have hmk : ∀ w : World, (Instr.makeSlice 94 (.int .i64 (L : Int)) (.int .i64 (L : Int))).run Try.prog w = .ok (.slice (some ⟨w.heap.size, 0, none⟩) L L) (w.alloc (.cells (madeCells #[.int .u16 0] L) 96)) := fun w => make94 L HL4.out w
  have yB3 : B < w3.heap.size := cell_lt c0
  obtain ⟨w2, hup, hown2, hturn2⟩ := (HM.out.alloc (.cells (madeCells #[.int .u16 0] L) 96)).drew.store Try.underlying3 Try.underlying60 (by unfold maxLen; omega) HK.out (.slice (some ⟨w3.heap.size, 0, none⟩) L L)
  have HO2 := Lib.hid hown2
  have HT2 := Lib.hid hturn2
  have hqB : ¬ (B = q) := (MapF.ne HM.out c0).symm
  have kB : w2.heap[B]? = w3.heap[B]? := (hturn2.grown.block B (by simp; omega) (by simpa using hqB)).trans (Below.heap_alloc _ _ _ yB3)
  have k2 := cell_kept c2 kB
  have k0 := cell_kept c0 kB
  have hl2 : (Instr.lookup 60 (.map (some q)) (.int .i64 p) false).run Try.prog w2 = .ok (.slice (some ⟨w3.heap.size, 0, none⟩) L L) w2 := by
    rw [hown2.look Try.underlying3 Try.underlying60 (zero94 w2) HK.out]
    simp [putF]
  clear hown2 hturn2 kB
  go_upto_region 4 with fail
  go_region_held3 (fun w' => w'.cell? ⟨B, 2, none⟩ = some (.map (some q)) ∧ w'.cell? ⟨B, 0, none⟩ = some (.int .i64 sz)) (exact ⟨by simp [go_sem, *], by simp [go_sem, *]⟩) (fail)
  all_goals go_wp2
  all_goals go_returns
  all_goals
    obtain ⟨q1, q2, q3⟩ := HM1.out.mkrow HM2.out HR.out H0.out HPL.out HO2.out HT2.out
    have hsz := HM3.out.size
    have hwq := HWQ.out
    refine ⟨q, w3.heap.size, 0 + 1, _, by rw [HPL.out]; rfl, by unfold putRow; rw [if_pos rfl], by omega, fun k hk => ?_, q1, q2, ((HM3.out.mono (G := owns B none pt row) fun k hk => Or.inl hk).trans' q3 fun k hk => Or.inr (by rw [hk, ← hwq]; exact Nat.le_refl _))⟩
    rcases hk with hk | hk | hk | ⟨x, hk⟩
    · exact Or.inl (Or.inl hk)
    · injection hk with hk; exact Or.inr (by omega)
    · exact Or.inl (Or.inr (Or.inr (Or.inl hk)))
    · unfold putRow at hk
      by_cases hxp : x = p
      · rw [if_pos hxp] at hk; injection hk with hk; exact Or.inr (by omega)
      · rw [if_neg hxp] at hk; exact Or.inl (Or.inr (Or.inr (Or.inr ⟨x, hk⟩)))
end Go.Proofs.Ytjbflmpnmobngaa
