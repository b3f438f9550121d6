/- A page that is laid. -/
import Derived.Test.YtjbflmpnmobngaaMk
import Derived.Deep.OwnRows
namespace Go.Proofs.Ytjbflmpnmobngaa
set_option linter.unusedSimpArgs false
set_option linter.unusedVariables false
open Go.RowKit

variable {w w' : World} {B : Nat} {sz : Int} {fx : Bool} {pg pt : Option Nat} {n1 n2 T : Nat} {row : Int → Option Nat} {cell : Nat → Int} {ptr : Int → Option (Int × Int × Int)} {own : Nat → Prop}
theorem i64w (n : Int) (h0 : -9223372036854775808 ≤ n) (h1 : n ≤ 9223372036854775807) : IntKind.i64.wrap n = n := by
  simp [IntKind.wrap, IntKind.bits, IntKind.signed]; omega
theorem nilmap60 (q : Nat) (w : World) : (binOp .eql 60 (.map (some q)) (.map none)).run Try.prog w = .ok (.bool false) w := by kernel_rfl
theorem nilmap60' (w : World) : (binOp .eql 60 (.map none) (.map none)).run Try.prog w = .ok (.bool true) w := by kernel_rfl
theorem Try.info96 : (Try.prog.info? 96).map (fun i => (i.zero, i.size, i.bytes)) = some (some (.int .u16 0), 1, 2) := by kernel_rfl
theorem page_old (p : Int) (hp0 : 0 ≤ p) (hp1 : p ≤ 4096) (r : Nat) (hr : row p = some r) (h : BRep w B sz fx pg pt n1 n2 row cell ptr) (hS : Sep w B pg pt row) :
    Calls Try.prog 63 #[.pointer (some ⟨B, 0, none⟩), .int .i64 p] w fun e w' => e = .returned (.slice (some ⟨r, 0, none⟩) (plen sz p) (plen sz p)) ∧ w = w' := by
  have c2 := h.c2
  obtain ⟨q, rfl⟩ : ∃ q, pg = some q := by
    cases pg with
    | none => exact absurd rfl (hS.rp p r hr).2
    | some q => exact ⟨q, rfl⟩
  have hn := nilmap60 q w
  have hm := row94 r (plen sz p) w
  have hl := look_row h hr (Key.mk (by omega) (by omega))
  clear h hS hr
  go_enter Try.func63, Try.ntmps63
  go_wp2
  go_returns
  exact ⟨rfl, rfl⟩
theorem make94 (L : Nat) (hL : L ≤ 4096) (w : World) : (Instr.makeSlice 94 (.int .i64 (L : Int)) (.int .i64 (L : Int))).run Try.prog w = .ok (.slice (some ⟨w.heap.size, 0, none⟩) L L) (w.alloc (.cells (madeCells #[.int .u16 0] L) 96)) := by
  obtain ⟨i0, hi, hz0, hz1, hz2⟩ := info_parts Try.info96
  have := run_makeSlice (P := Try.prog) (w := w) 94 96 i0 (.int .u16 0) Try.underlying94 hi hz0 .i64 .i64 (L : Int) (L : Int) (by omega) (by omega) (by rw [hz1]; omega) (by rw [hz2]; omega) (by omega)
  rw [this, hz1]
  simp [Value.cells]
def putRow (row : Int → Option Nat) (p : Int) (r : Nat) : Int → Option Nat := fun x => if x = p then some r else row x
theorem rowV_put (row : Int → Option Nat) (p : Int) (r : Nat) : rowV sz (putRow row p r) = putF (rowV sz row) p (.slice (some ⟨r, 0, none⟩) (plen sz p) (plen sz p)) := by
  funext x; unfold rowV putRow putF
  by_cases h : x = p
  · subst h; simp
  · simp [h]
theorem made_cell (w : World) (L i : Nat) (hi : i < L) : (w.alloc (.cells (madeCells #[.int .u16 0] L) 96)).cell? ⟨w.heap.size, i, none⟩ = some (.int .u16 0) := by
  have h : (madeCells #[.int .u16 0] L)[i]? = some (.int .u16 0) := by
    rw [← Array.getElem?_toList, toList_madeCells_one, List.getElem?_replicate, if_pos hi]
  unfold World.cell?
  rw [show (w.alloc (.cells (madeCells #[.int .u16 0] L) 96)).heap[w.heap.size]? = some (.cells (madeCells #[.int .u16 0] L) 96) from heap_alloc_new w _]
  simpa using h
/-- A row is laid. -/
theorem BRep.mkrow {q : Nat} {p : Int} {L : Nat} (h : BRep w B sz fx (some q) pt n1 n2 row cell ptr) (hS : Sep w B (some q) pt row) (hr : row p = none) (hp0 : 0 ≤ p) (hL : plen sz p = L)
    (hm : MapF Try.prog 3 w' q (n1 + 1) (putF (rowV sz row) p (.slice (some ⟨w.heap.size, 0, none⟩) L L))) (ht : ((w.alloc (.cells (madeCells #[.int .u16 0] L) 96)).drew).mapTurned w' q) :
    BRep w' B sz fx (some q) pt (n1 + 1) n2 (putRow row p w.heap.size) cell ptr ∧ Sep w' B (some q) pt (putRow row p w.heap.size) ∧ Touch (fun k => k = q) w w' := by
  have hq : MapF Try.prog 3 w q n1 (rowV sz row) := h.pgs
  have hB : B < w.heap.size := cell_lt h.c0
  have ka : ∀ k, k < w.heap.size → (w.alloc (.cells (madeCells #[.int .u16 0] L) 96)).heap[k]? = w.heap[k]? := fun k hk => Below.heap_alloc _ _ _ hk
  have hsz : (w.alloc (.cells (madeCells #[.int .u16 0] L) 96)).heap.size = w.heap.size + 1 := by simp
  have ks : ∀ k, k < w.heap.size + 1 → k ≠ q → w'.heap[k]? = (w.alloc (.cells (madeCells #[.int .u16 0] L) 96)).heap[k]? := fun k hk hn => ht.grown.block k (by show k < (w.alloc _).heap.size; rw [hsz]; exact hk) (by simpa using hn)
  have key : ∀ k, k < w.heap.size → k ≠ q → w'.heap[k]? = w.heap[k]? := fun k hk hn => (ks k (by omega) hn).trans (ka k hk)
  have hqR : q < w.heap.size := hq.lt
  have kR := ks w.heap.size (by omega) (by omega)
  have kB := key B hB (hq.ne h.c0).symm
  have kr : ∀ x r, row x = some r → w'.heap[r]? = w.heap[r]? := fun x r hr => key r (hS.rl x r hr).1 (hq.ne_row (hS.rl x r hr).2).symm
  have t1 : Touch (fun k => k = q) w ((w.alloc (.cells (madeCells #[.int .u16 0] L) 96)).drew) := ((Touch.refl _ w).alloc _ _).drew
  have t2 : Touch (fun k => k = q) w w' := t1.turned ht (Or.inl rfl)
  have rc : ∀ x r, putRow row p w.heap.size x = some r → (x = p ∧ r = w.heap.size) ∨ (x ≠ p ∧ row x = some r) := fun x r hx => by
    unfold putRow at hx
    by_cases hxp : x = p
    · rw [if_pos hxp] at hx; injection hx with hx; exact Or.inl ⟨hxp, hx.symm⟩
    · rw [if_neg hxp] at hx; exact Or.inr ⟨hxp, hx⟩
  refine ⟨⟨cell_kept h.c0 kB, cell_kept h.c1 kB, cell_kept h.c2 kB, cell_kept h.c3 kB, h.s0, h.s1, ?_, h.pts.kept fun b hb => key b (h.pts.lt hb) (fun e => hS.pp q rfl (by rw [← e]; exact hb)), fun x r hx i hi => ?_, fun x hx0 hx i hi => ?_, h.rng⟩,
    ⟨fun x r hx => ?_, fun x x' r hx hx' => ?_, hS.pp, fun x r hx => ?_, fun k hk o => ?_, fun x r hx => ?_⟩, t2⟩
  · show MapF Try.prog 3 w' q (n1 + 1) _
    rw [rowV_put, hL]; exact hm
  · rcases rc x r hx with ⟨rfl, rfl⟩ | ⟨hxp, hx⟩
    · rw [h.non x hp0 hr i (by have := plen_le sz x; omega)]
      exact cell_kept (made_cell w L i (by omega)) kR
    · exact cell_kept (h.rws x r hx i hi) (kr x r hx)
  · have hx' : row x = none := by
      unfold putRow at hx
      by_cases hxp : x = p
      · rw [if_pos hxp] at hx; cases hx
      · rw [if_neg hxp] at hx; exact hx
    exact h.non x hx0 hx' i hi
  · rcases rc x r hx with ⟨rfl, rfl⟩ | ⟨hxp, hx⟩
    · omega
    · exact hS.rB x r hx
  · rcases rc x r hx with ⟨e1, e2⟩ | ⟨hxp, hy⟩
    · rcases rc x' r hx' with ⟨e3, _⟩ | ⟨hxp', hy'⟩
      · rw [e1, e3]
      · exact absurd (hS.rl x' r hy').1 (by omega)
    · rcases rc x' r hx' with ⟨e3, e4⟩ | ⟨hxp', hy'⟩
      · exact absurd (hS.rl x r hy).1 (by omega)
      · exact hS.rr x x' r hy hy'
  · rcases rc x r hx with ⟨rfl, rfl⟩ | ⟨hxp, hx⟩
    · exact ⟨by have := t2.size; have := ht.grown.size; have e : ((w.alloc (.cells (madeCells #[.int .u16 0] L) 96)).drew).heap.size = w.heap.size + 1 := hsz; omega, by rw [kR, heap_alloc_new]; exact ⟨_, _, _, rfl⟩⟩
    · exact ⟨Nat.lt_of_lt_of_le (hS.rl x r hx).1 t2.size, by rw [kr x r hx]; exact (hS.rl x r hx).2⟩
  · rw [t2.froz]
    rcases hk with rfl | hk | hk | ⟨x, hk⟩
    · exact hS.fr k (Or.inl rfl) o
    · exact hS.fr k (Or.inr (Or.inl hk)) o
    · exact hS.fr k (Or.inr (Or.inr (Or.inl hk))) o
    · rcases rc x k hk with ⟨rfl, rfl⟩ | ⟨hxp, hk⟩
      · simp [World.frozen?]
      · exact hS.fr k (Or.inr (Or.inr (Or.inr ⟨x, hk⟩))) o
  · rcases rc x r hx with ⟨rfl, rfl⟩ | ⟨hxp, hx⟩
    · exact ⟨hp0, by simp⟩
    · exact hS.rp x r hx
def Paged (B : Nat) (sz : Int) (fx : Bool) (pt : Option Nat) (N n2 : Nat) (row : Int → Option Nat) (cell : Nat → Int) (ptr : Int → Option (Int × Int × Int)) (p : Int) (F : Nat → Prop) (w : World) (e : Ending) (w' : World) : Prop :=
  ∃ q r n1' row', e = .returned (.slice (some ⟨r, 0, none⟩) (plen sz p) (plen sz p)) ∧ row' p = some r ∧ n1' ≤ N + 1 ∧ (∀ k, owns B (some q) pt row' k → F k ∨ w.heap.size ≤ k) ∧ BRep w' B sz fx (some q) pt n1' n2 row' cell ptr ∧ Sep w' B (some q) pt row' ∧ Touch F w w'
set_option maxRecDepth 100000 in
set_option maxHeartbeats 4000000 in
theorem page_full (p : Int) (q : Nat) (hp0 : 0 ≤ p) (hp1 : 4096 ≤ sz - p * 4096) (hr : row p = none) (hT : n1 < maxLen) (h : BRep w B sz fx (some q) pt n1 n2 row cell ptr) (hS : Sep w B (some q) pt row) :
    Calls Try.prog 63 #[.pointer (some ⟨B, 0, none⟩), .int .i64 p] w (Paged B sz fx pt n1 n2 row cell ptr p (owns B (some q) pt row) w) := by
  have c2 := h.c2
  have c0 := h.c0
  have s1 := h.s1
  have hn := nilmap60 q w
  have hm := nil94 w
  have hl := look_none h hr (Key.mk (by omega) (by omega))
  have HK : Hid (Key p) := Lib.hid (Key.mk (by omega) (by omega))
  have hpl : plen sz p = 4096 := by unfold plen; omega
  have HPL := Lib.hid hpl
  have eX : IntKind.i64.wrap (sz - IntKind.i64.wrap (p * 4096)) = sz - p * 4096 := by have hz := h.s0; rw [i64w (p * 4096) (by omega) (by omega), i64w (sz - p * 4096) (by omega) (by omega)]
  generalize sz - p * 4096 = X at eX hp1
  have hX : ¬ X < 4096 := by omega
  have HB := Lib.hid h
  have HS := Lib.hid hS
  have HR := Lib.hid hr
  have H0 := Lib.hid hp0
  have HM : Hid (MapF Try.prog 3 w q n1 (rowV sz row)) := Lib.hid h.pgs
  have hmk : ∀ w : World, (Instr.makeSlice 94 (.int .i64 4096) (.int .i64 4096)).run Try.prog w = .ok (.slice (some ⟨w.heap.size, 0, none⟩) 4096 4096) (w.alloc (.cells (madeCells #[.int .u16 0] 4096) 96)) := fun w => make94 4096 (by omega) w
  have yB : B < w.heap.size := cell_lt c0
  obtain ⟨w2, hup, hown2, hturn2⟩ := (HM.out.alloc (.cells (madeCells #[.int .u16 0] 4096) 96)).drew.store Try.underlying3 Try.underlying60 hT HK.out (.slice (some ⟨w.heap.size, 0, none⟩) 4096 4096)
  have HO2 := Lib.hid hown2
  have HT2 := Lib.hid hturn2
  have hqB : ¬ (B = q) := (MapF.ne HM.out c0).symm
  have kB : w2.heap[B]? = w.heap[B]? := (hturn2.grown.block B (by simp; omega) (by simpa using hqB)).trans (Below.heap_alloc _ _ _ yB)
  have k2 := cell_kept c2 kB
  have k0 := cell_kept c0 kB
  have hl2 : (Instr.lookup 60 (.map (some q)) (.int .i64 p) false).run Try.prog w2 = .ok (.slice (some ⟨w.heap.size, 0, none⟩) 4096 4096) w2 := by
    rw [hown2.look Try.underlying3 Try.underlying60 (zero94 w2) HK.out]
    simp [putF]
  clear h hS hr hT hown2 hturn2 kB hpl hp0
  go_enter Try.func63, Try.ntmps63
  go_upto_region 4 with fail
  go_region_held3 (fun w' => w'.cell? ⟨B, 2, none⟩ = some (.map (some q)) ∧ w'.cell? ⟨B, 0, none⟩ = some (.int .i64 sz)) (exact ⟨by simp [go_sem, *], by simp [go_sem, *]⟩) (fail)
  all_goals go_wp2
  all_goals go_returns
  all_goals
    obtain ⟨q1, q2, q3⟩ := HB.out.mkrow HS.out HR.out H0.out HPL.out HO2.out HT2.out
    refine ⟨q, w.heap.size, n1 + 1, _, by rw [HPL.out]; rfl, by unfold putRow; rw [if_pos rfl], by omega, fun k hk => ?_, q1, q2, q3.mono fun k hk => Or.inr (Or.inl (by rw [hk]))⟩
    rcases hk with hk | hk | hk | ⟨x, hk⟩
    · exact Or.inl (Or.inl hk)
    · exact Or.inl (Or.inr (Or.inl hk))
    · exact Or.inl (Or.inr (Or.inr (Or.inl hk)))
    · unfold putRow at hk
      by_cases hxp : x = p
      · rw [if_pos hxp] at hk; injection hk with hk; exact Or.inr (by omega)
      · rw [if_neg hxp] at hk; exact Or.inl (Or.inr (Or.inr (Or.inr ⟨x, hk⟩)))
set_option maxRecDepth 100000 in
set_option maxHeartbeats 4000000 in
theorem page_part (p : Int) (q : Nat) (hp0 : 0 ≤ p) (L : Nat) (hp1 : sz - p * 4096 = (L : Int)) (hL0 : L < 4096) (hr : row p = none) (hT : n1 < maxLen) (h : BRep w B sz fx (some q) pt n1 n2 row cell ptr) (hS : Sep w B (some q) pt row) :
    Calls Try.prog 63 #[.pointer (some ⟨B, 0, none⟩), .int .i64 p] w (Paged B sz fx pt n1 n2 row cell ptr p (owns B (some q) pt row) w) := by
  have c2 := h.c2
  have c0 := h.c0
  have s1 := h.s1
  have hn := nilmap60 q w
  have hm := nil94 w
  have hl := look_none h hr (Key.mk (by omega) (by omega))
  have HK : Hid (Key p) := Lib.hid (Key.mk (by omega) (by omega))
  have hpl : plen sz p = L := by unfold plen; omega
  have HPL := Lib.hid hpl
  have eX : IntKind.i64.wrap (sz - IntKind.i64.wrap (p * 4096)) = sz - p * 4096 := by have hz := h.s0; rw [i64w (p * 4096) (by omega) (by omega), i64w (sz - p * 4096) (by omega) (by omega)]
  rw [hp1] at eX
  have hX : (L : Int) < 4096 := by omega
  clear hp1
  have HB := Lib.hid h
  have HS := Lib.hid hS
  have HR := Lib.hid hr
  have H0 := Lib.hid hp0
  have HM : Hid (MapF Try.prog 3 w q n1 (rowV sz row)) := Lib.hid h.pgs
  have hmk : ∀ w : World, (Instr.makeSlice 94 (.int .i64 (L : Int)) (.int .i64 (L : Int))).run Try.prog w = .ok (.slice (some ⟨w.heap.size, 0, none⟩) L L) (w.alloc (.cells (madeCells #[.int .u16 0] L) 96)) := fun w => make94 L (by omega) w
  have yB : B < w.heap.size := cell_lt c0
  obtain ⟨w2, hup, hown2, hturn2⟩ := (HM.out.alloc (.cells (madeCells #[.int .u16 0] L) 96)).drew.store Try.underlying3 Try.underlying60 hT HK.out (.slice (some ⟨w.heap.size, 0, none⟩) L L)
  have HO2 := Lib.hid hown2
  have HT2 := Lib.hid hturn2
  have hqB : ¬ (B = q) := (MapF.ne HM.out c0).symm
  have kB : w2.heap[B]? = w.heap[B]? := (hturn2.grown.block B (by simp; omega) (by simpa using hqB)).trans (Below.heap_alloc _ _ _ yB)
  have k2 := cell_kept c2 kB
  have k0 := cell_kept c0 kB
  have hl2 : (Instr.lookup 60 (.map (some q)) (.int .i64 p) false).run Try.prog w2 = .ok (.slice (some ⟨w.heap.size, 0, none⟩) L L) w2 := by
    rw [hown2.look Try.underlying3 Try.underlying60 (zero94 w2) HK.out]
    simp [putF]
  clear h hS hr hT hown2 hturn2 kB hpl hp0
  go_enter Try.func63, Try.ntmps63
  go_upto_region 4 with fail
  go_region_held3 (fun w' => w'.cell? ⟨B, 2, none⟩ = some (.map (some q)) ∧ w'.cell? ⟨B, 0, none⟩ = some (.int .i64 sz)) (exact ⟨by simp [go_sem, *], by simp [go_sem, *]⟩) (fail)
  all_goals go_wp2
  all_goals go_returns
  all_goals
    obtain ⟨q1, q2, q3⟩ := HB.out.mkrow HS.out HR.out H0.out HPL.out HO2.out HT2.out
    refine ⟨q, w.heap.size, n1 + 1, _, by rw [HPL.out]; rfl, by unfold putRow; rw [if_pos rfl], by omega, fun k hk => ?_, q1, q2, q3.mono fun k hk => Or.inr (Or.inl (by rw [hk]))⟩
    rcases hk with hk | hk | hk | ⟨x, hk⟩
    · exact Or.inl (Or.inl hk)
    · exact Or.inl (Or.inr (Or.inl hk))
    · exact Or.inl (Or.inr (Or.inr (Or.inl hk)))
    · unfold putRow at hk
      by_cases hxp : x = p
      · rw [if_pos hxp] at hk; injection hk with hk; exact Or.inr (by omega)
      · rw [if_neg hxp] at hk; exact Or.inl (Or.inr (Or.inr (Or.inr ⟨x, hk⟩)))
end Go.Proofs.Ytjbflmpnmobngaa
