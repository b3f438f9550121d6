/- The reference's memory: one block more. -/
import Derived.Test.YtjbflmpnmobngaaVj
import Derived.Deep.OwnRows
import Derived.Deep.DeepAppendWide
import Derived.Deep.RegionLaw
namespace Go.Proofs.Ytjbflmpnmobngaa
set_option linter.unusedSimpArgs false
set_option linter.unusedVariables false
open Go.RowKit

theorem info66 : (Try.prog.info? 66).map (fun i => (i.zero, i.size, i.bytes)) = some (some (.agg #[.slice none 0 0, .slice none 0 0, .map none, .bool false, .bool false]), 5, 64) := by kernel_rfl
/-- The step: a block more, in a region that draws. -/
theorem step_push {w : World} {M N : Nat} {v : Value} {L : RL} (H : RMem w M N v L) {Y : World} {cs : Array Value} {ops : Array Oper} {o : Oper} {a : Act} {K : Act → World → Prop} {Q : Exit → Act → World → Prop} {E : Prop} (hgd : o.guard = none) (s x : Operand)
    (ho : o.op = .call { callee := .builtin .append, args := #[s, x], argTypes := #[27, 27] }) (hs : a.eval s = v) (hx : a.eval x = .slice (some ⟨Y.heap.size, 0, none⟩) 1 1) (hcs : cs.size = 5) (h1 : ∀ u ∈ cs.toList, u.oneCell' = true)
    (hL : L.length < 2199023255552) (hF : Fresh w Y)
    (h : ∀ g' cap' w', w'.ownsRow 0 66 5 (.slice (some ⟨g', 0, none⟩) (L.length + 1) cap') (L.length + 1) (cellsR L ++ cs.toList) → Touch (fun k => v.ownBlock = some k) (Y.alloc (.cells cs 66)).drew w' → (v.ownBlock = some g' ∨ Y.heap.size ≤ g' ∧ g' < w'.heap.size) → w'.cell? ⟨M, 0, none⟩ = some v → (∀ o, w'.frozen? ⟨M, o, none⟩ = false) → K (a.put o.dst (.slice (some ⟨g', 0, none⟩) (L.length + 1) cap')) w') :
    if Region.wanted o (yielded ops a.tmps) = true then Oper.wp Try.prog o a (Y.alloc (.cells cs 66)).drew K Q else E := by
  have hw : Region.wanted o (yielded ops a.tmps) = true := by simp [Region.wanted, hgd]
  rw [if_pos hw]
  have hown : Y.ownsRow 0 66 5 v L.length (cellsR L) := (H.fresh hF).own
  obtain ⟨i, hi, hzz⟩ := Option.map_eq_some_iff.1 info66
  simp only [Prod.mk.injEq] at hzz
  obtain ⟨hz, hsz, hby⟩ := hzz
  have hn : ∀ j u, cs.toList[j]? = some u → (Y.alloc (.cells cs 66)).drew.cell? ((⟨Y.heap.size, 0, none⟩ : Addr).add j) = some u := fun j u hj => by
    have hadd : (⟨Y.heap.size, 0, none⟩ : Addr).add j = ⟨Y.heap.size, j, none⟩ := by unfold Addr.add; split <;> simp_all
    rw [hadd, show ∀ W : World, W.drew.cell? _ = W.cell? _ from fun _ => rfl, cell_of_row _ _ _ cs 66 (0, 0) (heap_alloc_new Y _)]
    simpa using hj
  have hl : cs.toList.length = 1 * 5 := by simpa using hcs
  have hm : L.length + 1 ≤ maxLen := by simp only [maxLen]; omega
  have hbt : ((L.length + 1) + (L.length + 1) / 4 + 192) * i.bytes ≤ 281474976710656 := by
    rw [hby]; omega
  obtain ⟨v', w', hr, h2, h3, h4⟩ := run_append_own_wide (P := Try.prog) (Y.alloc (.cells cs 66)).drew 0 27 o.type 66 i _ 5 64 Try.underlying27 hi hz hsz hby rfl (by decide) v L.length (cellsR L) (own_block (w' := (Y.alloc (.cells cs 66)).drew) (hown.alloc (.cells cs 66)) (fun _ _ => rfl)) ⟨Y.heap.size, 0, none⟩ 1 1 cs.toList hl hn h1 hm (by rw [← hby]; exact hbt) (Nat.zero_le _)
  obtain ⟨r1, g', cap', rfl, r2⟩ := push_where (P := Try.prog) Try.underlying27 hi hz hsz (own_block (w' := (Y.alloc (.cells cs 66)).drew) (hown.alloc (.cells cs 66)) (fun _ _ => rfl)) hl hn h1 hm hbt hr
  unfold Oper.wp execOp
  simp only [ho, resolve, invoke, builtin, Sem.run_bind, Sem.run_pure, Result.andThen_ok, List.map_toArray, List.map_cons, List.map_nil, hs, hx, hr]
  have fX : Fresh w (Y.alloc (.cells cs 66)).drew := (hF.alloc _ _).drew
  refine h g' cap' w' h2 r1 ?_ (r1.cellOf (a := ⟨M, 0, none⟩) H.vM (fresh_at fX H.c0)) (fun o => by rw [r1.froz, fX.froz]; exact H.mf o)
  rcases r2 with r2 | ⟨r2, r3⟩
  · exact Or.inl r2
  · refine Or.inr ⟨?_, by omega⟩
    rw [r2]; simp
/-- What was made for a new block. -/
structure MadeR (w Y : World) (K B P size : Nat) : Prop where
  f : Fresh w Y
  kd : ∀ o, o < size → Y.cell? ⟨K, o, none⟩ = some (.int .u8 0)
  by' : ∀ o, o < size → Y.cell? ⟨B, o, none⟩ = some (.int .u8 0)
  mp : MapF Try.prog 3 Y P 0 (fun _ => none)
  fK : ∀ o, Y.frozen? ⟨K, o, none⟩ = false
  fB : ∀ o, Y.frozen? ⟨B, o, none⟩ = false
  lt : K < Y.heap.size ∧ B < Y.heap.size ∧ P < Y.heap.size
  ge : w.heap.size ≤ K ∧ w.heap.size ≤ B ∧ w.heap.size ≤ P
  ne : K ≠ B ∧ K ≠ P ∧ B ≠ P
def zRB (size : Nat) : RB := ⟨size, fun _ => 0, fun _ => 0, fun _ => none, false⟩
theorem blocksR_push : ∀ (L : RL) (t : Option RB × Head × Bool), blocksR (L ++ [t]) = blocksR L ++ [t.2.1.K, t.2.1.B, t.2.1.P]
  | [], t => rfl
  | a :: r, t => by simp only [List.cons_append, blocksR, blocksR_push r t]
theorem cellsR_push : ∀ (L : RL) (t : Option RB × Head × Bool), cellsR (L ++ [t]) = cellsR L ++ headV t.2.1 t.2.2 t.1
  | [], t => by simp only [List.nil_append, cellsR, List.append_nil]
  | a :: r, t => by simp only [List.cons_append, cellsR, cellsR_push r t, List.append_assoc]
theorem alloc_done {w Y X w' Z : World} {M N K B P size g' cap' : Nat} {v : Value} {L : RL} (h : RMem w M N v L) (hs : size ≤ 16777216) (m : MadeR w Y K B P size) (fX : Fresh Y X)
    (hown : w'.ownsRow 0 66 5 (.slice (some ⟨g', 0, none⟩) (L.length + 1) cap') (L.length + 1) (cellsR L ++ [.slice (some ⟨K, 0, none⟩) size size, .slice (some ⟨B, 0, none⟩) size size, .map (some P), .bool true, .bool false]))
    (ht : Touch (fun k => v.ownBlock = some k) X w') (hg : v.ownBlock = some g' ∨ Y.heap.size ≤ g' ∧ g' < w'.heap.size) (hX : Y.heap.size < X.heap.size) (hZ : Fresh (w'.setCell ⟨M, 0, none⟩ (.slice (some ⟨g', 0, none⟩) (L.length + 1) cap')) Z) :
    LeftR M v L (plainR L ++ [some (zRB size)]) N w Z := by
  have hY := m.f.size
  have vl : ∀ k, v.ownBlock = some k → k < w.heap.size := fun k hk => (h.own.lt k hk).2
  have gM : g' ≠ M := fun e => by
    rcases hg with hg | hg
    · exact h.vM (by rw [hg, e])
    · have := h.ml; omega
  -- a block that is none of the old row's
  have keep : ∀ k, k < Y.heap.size → v.ownBlock ≠ some k → k ≠ M → Z.heap[k]? = Y.heap[k]? := fun k hk hv hm => by
    have s1 := fX.size
    have s2 := ht.size
    rw [hZ.below.block k (by simp only [World.setCell, Array.size_modify]; omega), Below.heap_setCell _ _ _ _ hm, ht.block k (by omega) hv, fX.below.block k hk]
  have tZ : Touch (fun k => v.ownBlock = some k ∨ k = M) w Z :=
    (((m.f.trans fX).touch (fun k => v.ownBlock = some k ∨ k = M)).trans ((ht.mono (G := fun k => v.ownBlock = some k ∨ k = M) (fun k hk => Or.inl hk)).setCell (p := ⟨M, 0, none⟩) (Or.inl (Or.inr rfl)) _)).trans (hZ.touch _)
  have sZ : w'.heap.size ≤ Z.heap.size := by have := hZ.size; simpa [World.setCell] using this
  have wX : X.heap.size ≤ w'.heap.size := ht.size
  have gl : g' < w'.heap.size := (hown.lt g' rfl).2
  refine ⟨.slice (some ⟨g', 0, none⟩) (L.length + 1) cap', L ++ [(some (zRB size), ⟨K, B, P⟩, false)], ⟨?_, ?_, ?_, ?_, ?_, ?_, ?_, ?_⟩, ?_, tZ.mono (fun k hk => ?_), fun k hk => ?_⟩
  · have hc : X.cell? ⟨M, 0, none⟩ = some v := fresh_at (m.f.trans fX) h.c0
    exact fresh_at hZ (World.cell?_setCell_same _ _ _ (ht.cellOf (a := ⟨M, 0, none⟩) h.vM hc))
  · rw [List.length_append, cellsR_push]
    refine own_block hown fun g hg => ?_
    injection hg with hg
    subst hg
    rw [hZ.below.block _ (by simp only [World.setCell, Array.size_modify]; omega), Below.heap_setCell _ _ _ _ gM]
  · intro e
    injection e with e
    exact gM e
  · intro o
    rw [tZ.froz]
    exact h.mf o
  · exact Nat.lt_of_lt_of_le h.ml tZ.size
  · intro a b x ha hb
    rw [blocksR_push] at ha hb
    have hlen := blocksR_len L
    have sp : ∀ a x, (blocksR L ++ [K, B, P])[a]? = some x → (a < (blocksR L).length ∧ (blocksR L)[a]? = some x ∧ x < w.heap.size) ∨ (a = (blocksR L).length ∧ x = K) ∨ (a = (blocksR L).length + 1 ∧ x = B) ∨ (a = (blocksR L).length + 2 ∧ x = P) := fun a x ha => by
      by_cases hl : a < (blocksR L).length
      · rw [List.getElem?_append_left hl] at ha
        exact Or.inl ⟨hl, ha, (h.ot a x ha).2.2⟩
      · rw [List.getElem?_append_right (by omega)] at ha
        obtain ⟨d, hd⟩ : ∃ d, a = (blocksR L).length + d := ⟨a - (blocksR L).length, by omega⟩
        subst hd
        rw [Nat.add_sub_cancel_left] at ha
        rcases d with _ | _ | _ | d
        · simp at ha; exact Or.inr (Or.inl ⟨rfl, ha.symm⟩)
        · simp at ha; exact Or.inr (Or.inr (Or.inl ⟨rfl, ha.symm⟩))
        · simp at ha; exact Or.inr (Or.inr (Or.inr ⟨rfl, ha.symm⟩))
        · simp at ha
    obtain ⟨ge1, ge2, ge3⟩ := m.ge
    obtain ⟨ne1, ne2, ne3⟩ := m.ne
    rcases sp a x ha with ⟨_, a1, a2⟩ | ⟨a1, a2⟩ | ⟨a1, a2⟩ | ⟨a1, a2⟩ <;> rcases sp b x hb with ⟨_, b1, b2⟩ | ⟨b1, b2⟩ | ⟨b1, b2⟩ | ⟨b1, b2⟩
    · exact h.nd a b x a1 b1
    all_goals omega
  · intro a x ha
    rw [blocksR_push] at ha
    obtain ⟨ge1, ge2, ge3⟩ := m.ge
    obtain ⟨l1, l2, l3⟩ := m.lt
    have ml := h.ml
    have fin : ∀ x, w.heap.size ≤ x → x < Y.heap.size → x ≠ M ∧ (Value.slice (some ⟨g', 0, none⟩) (L.length + 1) cap').ownBlock ≠ some x ∧ x < Z.heap.size := fun x hx1 hx2 => by
      refine ⟨by omega, fun e => ?_, by omega⟩
      injection e with e
      have e : g' = x := e
      rcases hg with hg | hg
      · have := vl _ hg; omega
      · omega
    by_cases hl : a < (blocksR L).length
    · rw [List.getElem?_append_left hl] at ha
      obtain ⟨o1, o2, o3⟩ := h.ot a x ha
      refine ⟨o1, fun e => ?_, by omega⟩
      injection e with e
      have e : g' = x := e
      rcases hg with hg | hg
      · exact o2 (by rw [hg, e])
      · omega
    · rw [List.getElem?_append_right (by omega)] at ha
      rcases hd : a - (blocksR L).length with _ | _ | _ | d
      · rw [hd] at ha; simp at ha; subst ha; exact fin _ ge1 l1
      · rw [hd] at ha; simp at ha; subst ha; exact fin _ ge2 l2
      · rw [hd] at ha; simp at ha; subst ha; exact fin _ ge3 l3
      · rw [hd] at ha; simp at ha
  · intro i r hd f hi
    by_cases hl : i < L.length
    · rw [List.getElem?_append_left hl] at hi
      obtain ⟨h1, h2, h3, h4⟩ := h.live i r hd f hi
      obtain ⟨b1, b2, b3⟩ := blocksR_at L i _ hi
      have q := fun (a x : Nat) (hx : (blocksR L)[a]? = some x) => (keep x (by have := (h.ot a x hx).2.2; omega) (h.ot a x hx).2.1 (h.ot a x hx).1).trans (m.f.below.block x (h.ot a x hx).2.2)
      exact ⟨h1.keptB (q _ _ b1) (q _ _ b2) (q _ _ b3), fun o => by rw [tZ.froz]; exact h2 o, fun o => by rw [tZ.froz]; exact h3 o, h4⟩
    · rw [List.getElem?_append_right (by omega)] at hi
      rcases hdi : i - L.length with _ | d
      · rw [hdi] at hi
        simp at hi
        obtain ⟨rfl, rfl, rfl⟩ := hi
        obtain ⟨ge1, ge2, ge3⟩ := m.ge
        obtain ⟨l1, l2, l3⟩ := m.lt
        have ml := h.ml
        have nv : ∀ x, w.heap.size ≤ x → v.ownBlock ≠ some x := fun x hx e => by have := vl x e; omega
        have q := fun x (hx1 : w.heap.size ≤ x) (hx2 : x < Y.heap.size) => keep x hx2 (nv x hx1) (by omega)
        have pe : pcV (zRB size) = fun _ => none := by funext x; unfold pcV zRB; split <;> rfl
        have fz : ∀ a, Z.frozen? a = Y.frozen? a := fun a => by rw [tZ.froz, m.f.froz]
        refine ⟨⟨fun o ho => ?_, fun o ho => ?_, pe.symm ▸ ((m.mp.block (q P ge3 l3)).mono (Nat.zero_le N)), fun o _ => by simp [zRB], fun o ho => by simp [zRB] at ho⟩, fun o => by rw [fz]; exact m.fK o, fun o => by rw [fz]; exact m.fB o, hs⟩
        · rw [World.cell?_of_block (w := Y) (q K ge1 l1)]; exact m.kd o ho
        · rw [World.cell?_of_block (w := Y) (q B ge2 l2)]; exact m.by' o ho
      · rw [hdi] at hi; simp at hi
  · unfold plainR; rw [List.map_append]; rfl
  · rcases hk with hk | hk
    · exact Or.inr (Or.inl hk)
    · exact Or.inl hk
  · rcases hk with hk | hk | ⟨a, hk⟩
    · exact Or.inl (Or.inl hk)
    · injection hk with hk
      have hk : g' = k := hk
      rcases hg with hg | hg
      · exact Or.inl (Or.inr (Or.inl (by rw [hg, hk])))
      · right; omega
    · rw [blocksR_push] at hk
      obtain ⟨ge1, ge2, ge3⟩ := m.ge
      by_cases hl : a < (blocksR L).length
      · rw [List.getElem?_append_left hl] at hk
        exact Or.inl (Or.inr (Or.inr ⟨a, hk⟩))
      · rw [List.getElem?_append_right (by omega)] at hk
        rcases hd : a - (blocksR L).length with _ | _ | _ | d
        · rw [hd] at hk; simp at hk; omega
        · rw [hd] at hk; simp at hk; omega
        · rw [hd] at hk; simp at hk; omega
        · rw [hd] at hk; simp at hk
theorem Fresh.allocM {a w : World} (h : Fresh a w) : Fresh a (w.alloc (.map #[] 0)) :=
  h.trans ⟨⟨rfl, rfl, rfl, by simp, fun k hk => Below.heap_alloc _ _ _ hk⟩, fun x => frozen?_alloc_map _ _ _ _⟩
theorem made5 (L : Nat) (hL : L ≤ 16777216) (w : World) : (Instr.makeSlice 44 (.int .i64 (L : Int)) (.int .i64 (L : Int))).run Try.prog w = .ok (.slice (some ⟨w.heap.size, 0, none⟩) L L) (w.alloc (.cells (madeCells #[.int .u8 0] L) 5)) :=
  run_make_row' 44 5 (.int .u8 0) 1 Try.underlying44 (by kernel_rfl) rfl .i64 .i64 L (by omega) (by omega) w
theorem made5_cell (w : World) (L o : Nat) (ho : o < L) : (w.alloc (.cells (madeCells #[.int .u8 0] L) 5)).cell? ⟨w.heap.size, o, none⟩ = some (.int .u8 0) := by
  rw [cell_of_row _ _ _ _ 5 (0, 0) (heap_alloc_new w _)]
  simp [madeCells, ho, Nat.mod_one]
theorem madeR_0 {w : World} {size K B P : Nat} (hK : K = w.heap.size + 0) (hB : B = w.heap.size + 1) (hP : P = w.heap.size + 2) : MadeR w (((w.alloc (.cells (madeCells #[.int .u8 0] size) 5)).alloc (.cells (madeCells #[.int .u8 0] size) 5)).alloc (.map #[] 0)) K B P size := by
  have eK : K = w.heap.size := by rw [hK]; simp
  have eB : B = (w.alloc (.cells (madeCells #[.int .u8 0] size) 5)).heap.size := by rw [hB]; simp
  have eP : P = ((w.alloc (.cells (madeCells #[.int .u8 0] size) 5)).alloc (.cells (madeCells #[.int .u8 0] size) 5)).heap.size := by rw [hP]; simp
  have lt : K < (((w.alloc (.cells (madeCells #[.int .u8 0] size) 5)).alloc (.cells (madeCells #[.int .u8 0] size) 5)).alloc (.map #[] 0)).heap.size ∧ B < (((w.alloc (.cells (madeCells #[.int .u8 0] size) 5)).alloc (.cells (madeCells #[.int .u8 0] size) 5)).alloc (.map #[] 0)).heap.size ∧ P < (((w.alloc (.cells (madeCells #[.int .u8 0] size) 5)).alloc (.cells (madeCells #[.int .u8 0] size) 5)).alloc (.map #[] 0)).heap.size := by simp; omega
  have ge : w.heap.size ≤ K ∧ w.heap.size ≤ B ∧ w.heap.size ≤ P := by omega
  have ne : K ≠ B ∧ K ≠ P ∧ B ≠ P := by omega
  refine ⟨((((Fresh.refl _).alloc _ _).alloc _ _).allocM), fun o ho => ?_, fun o ho => ?_, ?_, fun o => ?_, fun o => ?_, lt, ge, ne⟩
  · rw [eK]; exact fresh_at (((Fresh.refl _).alloc _ _).allocM) (made5_cell _ _ o ho)
  · rw [eB]; exact fresh_at ((Fresh.refl _).allocM) (made5_cell _ _ o ho)
  · rw [eP]; exact (MapF.made _ _ _)
  · rw [eK, (((Fresh.refl _).alloc _ _).allocM).froz]; exact World.frozen?_alloc_at _ _ _ o (by simp)
  · rw [eB, ((Fresh.refl _).allocM).froz]; exact World.frozen?_alloc_at _ _ _ o (by simp)
theorem madeR_1 {w : World} {size K B P : Nat} (hK : K = w.heap.size + 0) (hB : B = w.heap.size + 2) (hP : P = w.heap.size + 1) : MadeR w (((w.alloc (.cells (madeCells #[.int .u8 0] size) 5)).alloc (.map #[] 0)).alloc (.cells (madeCells #[.int .u8 0] size) 5)) K B P size := by
  have eK : K = w.heap.size := by rw [hK]; simp
  have eB : B = ((w.alloc (.cells (madeCells #[.int .u8 0] size) 5)).alloc (.map #[] 0)).heap.size := by rw [hB]; simp
  have eP : P = (w.alloc (.cells (madeCells #[.int .u8 0] size) 5)).heap.size := by rw [hP]; simp
  have lt : K < (((w.alloc (.cells (madeCells #[.int .u8 0] size) 5)).alloc (.map #[] 0)).alloc (.cells (madeCells #[.int .u8 0] size) 5)).heap.size ∧ B < (((w.alloc (.cells (madeCells #[.int .u8 0] size) 5)).alloc (.map #[] 0)).alloc (.cells (madeCells #[.int .u8 0] size) 5)).heap.size ∧ P < (((w.alloc (.cells (madeCells #[.int .u8 0] size) 5)).alloc (.map #[] 0)).alloc (.cells (madeCells #[.int .u8 0] size) 5)).heap.size := by simp; omega
  have ge : w.heap.size ≤ K ∧ w.heap.size ≤ B ∧ w.heap.size ≤ P := by omega
  have ne : K ≠ B ∧ K ≠ P ∧ B ≠ P := by omega
  refine ⟨((((Fresh.refl _).alloc _ _).allocM).alloc _ _), fun o ho => ?_, fun o ho => ?_, ?_, fun o => ?_, fun o => ?_, lt, ge, ne⟩
  · rw [eK]; exact fresh_at (((Fresh.refl _).allocM).alloc _ _) (made5_cell _ _ o ho)
  · rw [eB]; exact fresh_at (Fresh.refl _) (made5_cell _ _ o ho)
  · rw [eP]; exact ((MapF.made _ _ _).alloc _)
  · rw [eK, (((Fresh.refl _).allocM).alloc _ _).froz]; exact World.frozen?_alloc_at _ _ _ o (by simp)
  · rw [eB, (Fresh.refl _).froz]; exact World.frozen?_alloc_at _ _ _ o (by simp)
theorem madeR_2 {w : World} {size K B P : Nat} (hK : K = w.heap.size + 1) (hB : B = w.heap.size + 0) (hP : P = w.heap.size + 2) : MadeR w (((w.alloc (.cells (madeCells #[.int .u8 0] size) 5)).alloc (.cells (madeCells #[.int .u8 0] size) 5)).alloc (.map #[] 0)) K B P size := by
  have eK : K = (w.alloc (.cells (madeCells #[.int .u8 0] size) 5)).heap.size := by rw [hK]; simp
  have eB : B = w.heap.size := by rw [hB]; simp
  have eP : P = ((w.alloc (.cells (madeCells #[.int .u8 0] size) 5)).alloc (.cells (madeCells #[.int .u8 0] size) 5)).heap.size := by rw [hP]; simp
  have lt : K < (((w.alloc (.cells (madeCells #[.int .u8 0] size) 5)).alloc (.cells (madeCells #[.int .u8 0] size) 5)).alloc (.map #[] 0)).heap.size ∧ B < (((w.alloc (.cells (madeCells #[.int .u8 0] size) 5)).alloc (.cells (madeCells #[.int .u8 0] size) 5)).alloc (.map #[] 0)).heap.size ∧ P < (((w.alloc (.cells (madeCells #[.int .u8 0] size) 5)).alloc (.cells (madeCells #[.int .u8 0] size) 5)).alloc (.map #[] 0)).heap.size := by simp; omega
  have ge : w.heap.size ≤ K ∧ w.heap.size ≤ B ∧ w.heap.size ≤ P := by omega
  have ne : K ≠ B ∧ K ≠ P ∧ B ≠ P := by omega
  refine ⟨((((Fresh.refl _).alloc _ _).alloc _ _).allocM), fun o ho => ?_, fun o ho => ?_, ?_, fun o => ?_, fun o => ?_, lt, ge, ne⟩
  · rw [eK]; exact fresh_at ((Fresh.refl _).allocM) (made5_cell _ _ o ho)
  · rw [eB]; exact fresh_at (((Fresh.refl _).alloc _ _).allocM) (made5_cell _ _ o ho)
  · rw [eP]; exact (MapF.made _ _ _)
  · rw [eK, ((Fresh.refl _).allocM).froz]; exact World.frozen?_alloc_at _ _ _ o (by simp)
  · rw [eB, (((Fresh.refl _).alloc _ _).allocM).froz]; exact World.frozen?_alloc_at _ _ _ o (by simp)
theorem madeR_3 {w : World} {size K B P : Nat} (hK : K = w.heap.size + 2) (hB : B = w.heap.size + 0) (hP : P = w.heap.size + 1) : MadeR w (((w.alloc (.cells (madeCells #[.int .u8 0] size) 5)).alloc (.map #[] 0)).alloc (.cells (madeCells #[.int .u8 0] size) 5)) K B P size := by
  have eK : K = ((w.alloc (.cells (madeCells #[.int .u8 0] size) 5)).alloc (.map #[] 0)).heap.size := by rw [hK]; simp
  have eB : B = w.heap.size := by rw [hB]; simp
  have eP : P = (w.alloc (.cells (madeCells #[.int .u8 0] size) 5)).heap.size := by rw [hP]; simp
  have lt : K < (((w.alloc (.cells (madeCells #[.int .u8 0] size) 5)).alloc (.map #[] 0)).alloc (.cells (madeCells #[.int .u8 0] size) 5)).heap.size ∧ B < (((w.alloc (.cells (madeCells #[.int .u8 0] size) 5)).alloc (.map #[] 0)).alloc (.cells (madeCells #[.int .u8 0] size) 5)).heap.size ∧ P < (((w.alloc (.cells (madeCells #[.int .u8 0] size) 5)).alloc (.map #[] 0)).alloc (.cells (madeCells #[.int .u8 0] size) 5)).heap.size := by simp; omega
  have ge : w.heap.size ≤ K ∧ w.heap.size ≤ B ∧ w.heap.size ≤ P := by omega
  have ne : K ≠ B ∧ K ≠ P ∧ B ≠ P := by omega
  refine ⟨((((Fresh.refl _).alloc _ _).allocM).alloc _ _), fun o ho => ?_, fun o ho => ?_, ?_, fun o => ?_, fun o => ?_, lt, ge, ne⟩
  · rw [eK]; exact fresh_at (Fresh.refl _) (made5_cell _ _ o ho)
  · rw [eB]; exact fresh_at (((Fresh.refl _).allocM).alloc _ _) (made5_cell _ _ o ho)
  · rw [eP]; exact ((MapF.made _ _ _).alloc _)
  · rw [eK, (Fresh.refl _).froz]; exact World.frozen?_alloc_at _ _ _ o (by simp)
  · rw [eB, (((Fresh.refl _).allocM).alloc _ _).froz]; exact World.frozen?_alloc_at _ _ _ o (by simp)
theorem madeR_4 {w : World} {size K B P : Nat} (hK : K = w.heap.size + 1) (hB : B = w.heap.size + 2) (hP : P = w.heap.size + 0) : MadeR w (((w.alloc (.map #[] 0)).alloc (.cells (madeCells #[.int .u8 0] size) 5)).alloc (.cells (madeCells #[.int .u8 0] size) 5)) K B P size := by
  have eK : K = (w.alloc (.map #[] 0)).heap.size := by rw [hK]; simp
  have eB : B = ((w.alloc (.map #[] 0)).alloc (.cells (madeCells #[.int .u8 0] size) 5)).heap.size := by rw [hB]; simp
  have eP : P = w.heap.size := by rw [hP]; simp
  have lt : K < (((w.alloc (.map #[] 0)).alloc (.cells (madeCells #[.int .u8 0] size) 5)).alloc (.cells (madeCells #[.int .u8 0] size) 5)).heap.size ∧ B < (((w.alloc (.map #[] 0)).alloc (.cells (madeCells #[.int .u8 0] size) 5)).alloc (.cells (madeCells #[.int .u8 0] size) 5)).heap.size ∧ P < (((w.alloc (.map #[] 0)).alloc (.cells (madeCells #[.int .u8 0] size) 5)).alloc (.cells (madeCells #[.int .u8 0] size) 5)).heap.size := by simp; omega
  have ge : w.heap.size ≤ K ∧ w.heap.size ≤ B ∧ w.heap.size ≤ P := by omega
  have ne : K ≠ B ∧ K ≠ P ∧ B ≠ P := by omega
  refine ⟨((((Fresh.refl _).allocM).alloc _ _).alloc _ _), fun o ho => ?_, fun o ho => ?_, ?_, fun o => ?_, fun o => ?_, lt, ge, ne⟩
  · rw [eK]; exact fresh_at ((Fresh.refl _).alloc _ _) (made5_cell _ _ o ho)
  · rw [eB]; exact fresh_at (Fresh.refl _) (made5_cell _ _ o ho)
  · rw [eP]; exact (((MapF.made _ _ _).alloc _).alloc _)
  · rw [eK, ((Fresh.refl _).alloc _ _).froz]; exact World.frozen?_alloc_at _ _ _ o (by simp)
  · rw [eB, (Fresh.refl _).froz]; exact World.frozen?_alloc_at _ _ _ o (by simp)
theorem madeR_5 {w : World} {size K B P : Nat} (hK : K = w.heap.size + 2) (hB : B = w.heap.size + 1) (hP : P = w.heap.size + 0) : MadeR w (((w.alloc (.map #[] 0)).alloc (.cells (madeCells #[.int .u8 0] size) 5)).alloc (.cells (madeCells #[.int .u8 0] size) 5)) K B P size := by
  have eK : K = ((w.alloc (.map #[] 0)).alloc (.cells (madeCells #[.int .u8 0] size) 5)).heap.size := by rw [hK]; simp
  have eB : B = (w.alloc (.map #[] 0)).heap.size := by rw [hB]; simp
  have eP : P = w.heap.size := by rw [hP]; simp
  have lt : K < (((w.alloc (.map #[] 0)).alloc (.cells (madeCells #[.int .u8 0] size) 5)).alloc (.cells (madeCells #[.int .u8 0] size) 5)).heap.size ∧ B < (((w.alloc (.map #[] 0)).alloc (.cells (madeCells #[.int .u8 0] size) 5)).alloc (.cells (madeCells #[.int .u8 0] size) 5)).heap.size ∧ P < (((w.alloc (.map #[] 0)).alloc (.cells (madeCells #[.int .u8 0] size) 5)).alloc (.cells (madeCells #[.int .u8 0] size) 5)).heap.size := by simp; omega
  have ge : w.heap.size ≤ K ∧ w.heap.size ≤ B ∧ w.heap.size ≤ P := by omega
  have ne : K ≠ B ∧ K ≠ P ∧ B ≠ P := by omega
  refine ⟨((((Fresh.refl _).allocM).alloc _ _).alloc _ _), fun o ho => ?_, fun o ho => ?_, ?_, fun o => ?_, fun o => ?_, lt, ge, ne⟩
  · rw [eK]; exact fresh_at (Fresh.refl _) (made5_cell _ _ o ho)
  · rw [eB]; exact fresh_at ((Fresh.refl _).alloc _ _) (made5_cell _ _ o ho)
  · rw [eP]; exact (((MapF.made _ _ _).alloc _).alloc _)
  · rw [eK, (Fresh.refl _).froz]; exact World.frozen?_alloc_at _ _ _ o (by simp)
  · rw [eB, ((Fresh.refl _).alloc _ _).froz]; exact World.frozen?_alloc_at _ _ _ o (by simp)
section
set_option maxRecDepth 100000
set_option maxHeartbeats 40000000
theorem allocR_yes {w : World} {M N : Nat} {v : Value} {L : RL} (h : RMem w M N v L) (size : Nat) (hs : size ≤ 16777216) (hL : L.length < 2199023255552) :
    Calls Try.prog 10 #[.pointer (some ⟨M, 0, none⟩), .int .i64 (size : Int)] w fun e w' => e = .returned (.int .i64 ((L.length : Int) + 1)) ∧ LeftR M v L (plainR L ++ [some (zRB size)]) N w w' := by
  have s0 : (0 : Int) ≤ (size : Int) := by omega
  have s1 : (size : Int) ≤ 16777216 := by omega
  have d0 : decide ((size : Int) < 0) = false := decide_eq_false (by omega)
  have d1 : decide (16777216 < (size : Int)) = false := decide_eq_false (by omega)
  have hc := h.c0
  have hmf := h.mf
  have hml := h.ml
  have hca : ∀ o, (w.alloc o).cell? ⟨M, 0, none⟩ = some v := fun o => by rw [World.cell?_of_block (w := w) (heap_alloc_old w o hml)]; exact hc
  have hcb : ∀ o o', ((w.alloc o).alloc o').cell? ⟨M, 0, none⟩ = some v := fun o o' => by rw [World.cell?_of_block (w := w.alloc o) (heap_alloc_old _ o' (show M < (w.alloc o).heap.size by simp; omega))]; exact hca o
  have hcc : ∀ o o' o'', (((w.alloc o).alloc o').alloc o'').cell? ⟨M, 0, none⟩ = some v := fun o o' o'' => by rw [World.cell?_of_block (w := (w.alloc o).alloc o') (heap_alloc_old _ o'' (show M < ((w.alloc o).alloc o').heap.size by simp; omega))]; exact hcb o o'
  have hcd : ∀ o o' o'' o3, ((((w.alloc o).alloc o').alloc o'').alloc o3).cell? ⟨M, 0, none⟩ = some v := fun o o' o'' o3 => by rw [World.cell?_of_block (w := ((w.alloc o).alloc o').alloc o'') (heap_alloc_old _ o3 (show M < (((w.alloc o).alloc o').alloc o'').heap.size by simp; omega))]; exact hcc o o' o''
  have hmk := made5 size hs
  have hmm := @run_makeMap Try.prog
  have HLN := Lib.hid hL
  have H := Lib.hid h
  have HS := Lib.hid hs
  clear h
  go_enter Try.func10, Try.ntmps10
  go_upto_region 3 with fail
  go_region_law (refine step_push H.out rfl (.tmp 15) (.tmp 22) rfl (by simp [Act.eval, Act.put]) (by simp [Act.eval, Act.put]) rfl (by simp [Value.oneCell']) HLN.out (by repeat' first | with_reducible exact Fresh.refl _ | with_reducible refine Fresh.alloc ?_ _ _ | with_reducible refine Fresh.allocM ?_) ?_; intro g' cap' w' hown' ht' hg' xc xf)
  all_goals clear hca hcb hcc hcd hmk hmm hc hmf
  all_goals go_wp2_with fail
  all_goals go_ret
  all_goals refine ⟨by first | rfl | (simp; done), alloc_done H.out HS.out ?_ ?_ hown' ht' hg' ?_ (Fresh.refl _)⟩
  all_goals first | with_reducible exact madeR_0 (by omega) (by omega) (by omega) | with_reducible exact madeR_1 (by omega) (by omega) (by omega) | with_reducible exact madeR_2 (by omega) (by omega) (by omega) | with_reducible exact madeR_3 (by omega) (by omega) (by omega) | with_reducible exact madeR_4 (by omega) (by omega) (by omega) | with_reducible exact madeR_5 (by omega) (by omega) (by omega) | with_reducible exact ((Fresh.refl _).alloc _ _).drew | (simp; done)
end
end Go.Proofs.Ytjbflmpnmobngaa
