/- The reference's memory: a cell is put. -/
import Derived.Test.YtjbflmpnmobngaaVg
namespace Go.Proofs.Ytjbflmpnmobngaa
set_option linter.unusedSimpArgs false
set_option linter.unusedVariables false
open Go.RowKit

def RC.v1 : RC → Int
  | .piece v _ => v.1
  | _ => 0
def RC.v2 : RC → Int
  | .piece v _ => v.2.1
  | _ => 0
def RC.v3 : RC → Int
  | .piece v _ => v.2.2
  | _ => 0
def RC.ix : RC → Int
  | .piece _ i => i
  | _ => 0
def rcV (c : RC) : Value := .agg #[.int .i64 (c.kd : Int), .int .u8 (c.by' : Int), .int .i64 c.v1, .int .u64 c.v2, .int .i64 c.v3, .int .i64 c.ix]
theorem kd_two {c : RC} (h : c.kd = 2) : ∃ v i, c = .piece v i := by
  cases c with
  | piece v i => exact ⟨v, i, rfl⟩
  | none => cases h
  | byte x => cases h
theorem cont_of {T G : Prop} (h : T → G) (k : T) : G := h k
theorem pcV_put (r : RB) (off : Nat) (v : Int × Int × Int) (i : Nat) (f : Int → Option Value) (hf : ∀ x : Int, x ≠ off → f x = pcV r x) : putF f (off : Int) (pieceV (v, i)) = pcV (setR r off (.piece v i)) := by
  funext x
  unfold putF
  by_cases hx : x = (off : Int)
  · subst hx
    rw [if_pos rfl]
    unfold pcV setR
    rw [if_pos (by omega)]
    simp
  · rw [if_neg hx, hf x hx]
    unfold pcV setR
    by_cases h0 : 0 ≤ x
    · have hxt : ¬ (x.toNat = off) := by omega
      rw [if_pos h0, if_pos h0]
      simp only
      rw [if_neg hxt]
    · rw [if_neg h0, if_neg h0]
theorem pcV_del (r : RB) (off : Nat) (c : RC) (hc : c.kd ≠ 2) (hk : r.kd off = 2) : delF (pcV r) (off : Int) = pcV (setR r off c) := by
  funext x
  unfold delF
  by_cases hx : x = (off : Int)
  · subst hx
    rw [if_pos rfl]
    unfold pcV setR
    rw [if_pos (by omega)]
    cases c with
    | piece v i => exact absurd rfl hc
    | none => simp [hk]
    | byte b => simp [hk]
  · rw [if_neg hx]
    unfold pcV setR
    by_cases h0 : 0 ≤ x
    · have hxt : ¬ (x.toNat = off) := by omega
      rw [if_pos h0, if_pos h0]
      simp only
      rw [if_neg hxt]
    · rw [if_neg h0, if_neg h0]
theorem pcV_stay (r : RB) (off : Nat) (c : RC) (hc : c.kd ≠ 2) (hk : ¬ r.kd off = 2) : pcV r = pcV (setR r off c) := by
  funext x
  unfold pcV setR
  by_cases h0 : 0 ≤ x
  · rw [if_pos h0, if_pos h0]
    by_cases hx : x.toNat = off
    · simp only
      rw [if_pos hx, hx]
      cases c with
      | piece v i => exact absurd rfl hc
      | none => simp [hk]
      | byte b => simp [hk]
    · simp only
      rw [if_neg hx]
  · rw [if_neg h0, if_neg h0]
theorem set_done {w W2 X Y Z : World} {K B P N N' : Nat} {r : RB} {off : Nat} {c : RC} (h : RBlk w K B P N r) (hKl : K < w.heap.size) (hBl : B < w.heap.size) (f : Fresh w W2) (hX : Touch (fun k => k = P) W2 X) (hY : Fresh ((X.setCell ⟨K, off, none⟩ (.int .u8 (c.kd : Int))).setCell ⟨B, off, none⟩ (.int .u8 (c.by' : Int))) Y) (hZ : Touch (fun k => k = P) Y Z) (hm : MapF Try.prog 3 Z P N' (pcV (setR r off c)))
    (hKB : K ≠ B) (hKP : K ≠ P) (hBP : B ≠ P) : RBlk Z K B P N' (setR r off c) ∧ Touch (fun k => k = K ∨ k = B ∨ k = P) w Z := by
  have nK : ¬ (fun k => k = P) K := hKP
  have nB : ¬ (fun k => k = P) B := hBP
  have cK : ∀ o v, w.cell? ⟨K, o, none⟩ = some v → Z.cell? ⟨K, o, none⟩ = some (if o = off then .int .u8 (c.kd : Int) else v) := fun o v hv => by
    refine hZ.cellOf nK (fresh_at hY ?_)
    rw [World.cell?_setCell_other _ _ _ _ (fun e => hKB (congrArg Addr.block e).symm)]
    have hx := hX.cellOf (a := ⟨K, o, none⟩) nK (fresh_at f hv)
    by_cases ho : o = off
    · subst ho; rw [if_pos rfl]; exact World.cell?_setCell_same _ _ _ hx
    · rw [if_neg ho, World.cell?_setCell_other _ _ _ _ (fun e => ho (congrArg Addr.off e).symm)]; exact hx
  have cB : ∀ o v, w.cell? ⟨B, o, none⟩ = some v → Z.cell? ⟨B, o, none⟩ = some (if o = off then .int .u8 (c.by' : Int) else v) := fun o v hv => by
    refine hZ.cellOf nB (fresh_at hY ?_)
    have hx := hX.cellOf (a := ⟨B, o, none⟩) nB (fresh_at f hv)
    have hx2 : (X.setCell ⟨K, off, none⟩ (.int .u8 (c.kd : Int))).cell? ⟨B, o, none⟩ = some v := by rw [World.cell?_setCell_other _ _ _ _ (fun e => hKB (congrArg Addr.block e))]; exact hx
    by_cases ho : o = off
    · subst ho; rw [if_pos rfl]; exact World.cell?_setCell_same _ _ _ hx2
    · rw [if_neg ho, World.cell?_setCell_other _ _ _ _ (fun e => ho (congrArg Addr.off e).symm)]; exact hx2
  refine ⟨⟨fun o ho => ?_, fun o ho => ?_, hm, fun o ho => ?_, fun o ho => ?_⟩, ?_⟩
  · rw [cK o _ (h.kd o ho)]
    unfold setR
    by_cases e : o = off <;> simp [e]
  · rw [cB o _ (h.by' o ho)]
    unfold setR
    by_cases e : o = off <;> simp [e]
  · unfold setR
    simp only
    split
    · cases c <;> simp [RC.kd]
    · exact h.k3 o ho
  · unfold setR at ho ⊢
    simp only at ho ⊢
    split at ho
    · rename_i e
      rw [if_pos e]
      cases c with
      | none => cases ho
      | byte b => cases ho
      | piece v i => exact ⟨_, rfl⟩
    · rename_i e
      rw [if_neg e]
      exact h.k2 o ho
  · have t1 : Touch (fun k => k = K ∨ k = B ∨ k = P) w X := (f.touch _).trans (hX.mono fun k hk => Or.inr (Or.inr hk))
    exact (((t1.setCell (p := ⟨K, off, none⟩) (Or.inl (Or.inl rfl)) _).setCell (p := ⟨B, off, none⟩) (Or.inl (Or.inr (Or.inl rfl))) _).fresh hY).trans (hZ.mono fun k hk => Or.inr (Or.inr hk))
theorem pcV_rc (r : RB) (off : Nat) (c : RC) (hc : c.kd = 2) (f : Int → Option Value) (hf : ∀ x : Int, x ≠ off → f x = pcV r x) : putF f (off : Int) (rcV c) = pcV (setR r off c) := by
  obtain ⟨v, i, rfl⟩ := kd_two hc
  exact pcV_put r off v i f hf
section
set_option maxRecDepth 100000
set_option maxHeartbeats 4000000
theorem set_2 {K B P N : Nat} {r : RB} (a b : Bool) (ck cb v1 v2 v3 vi : Int) (r' : RB) (f0 : Int → Option Value) (off : Nat) (ho : off < r.sz) (hz : r.sz ≤ 16777216) (hN : N < maxLen) (hck : 0 ≤ ck ∧ ck < 256) (hKB : K ≠ B) (hKP : K ≠ P) (hBP : B ≠ P) (w : World) (hfK : ∀ o, w.frozen? ⟨K, o, none⟩ = false) (hfB : ∀ o, w.frozen? ⟨B, o, none⟩ = false) (h : RBlk w K B P N r) (hk2 : r.kd off = 2)
    (hf0 : f0 = delF (pcV r) (off : Int)) (D' : ∀ W2 X Y Z N', Fresh w W2 → Touch (fun k => k = P) W2 X → Fresh ((X.setCell ⟨K, off, none⟩ (.int .u8 ck)).setCell ⟨B, off, none⟩ (.int .u8 cb)) Y → Touch (fun k => k = P) Y Z → N' ≤ N + 1 → MapF Try.prog 3 Z P N' (if ck = 2 then putF f0 (off : Int) (.agg #[.int .i64 ck, .int .u8 cb, .int .i64 v1, .int .u64 v2, .int .i64 v3, .int .i64 vi]) else f0) → RBlk Z K B P (N + 1) r' ∧ Touch (fun k => k = K ∨ k = B ∨ k = P) w Z) :
    Calls Try.prog 46 #[.agg #[.slice (some ⟨K, 0, none⟩) r.sz r.sz, .slice (some ⟨B, 0, none⟩) r.sz r.sz, .map (some P), .bool a, .bool b], .int .i64 (off : Int), .agg #[.int .i64 ck, .int .u8 cb, .int .i64 v1, .int .u64 v2, .int .i64 v3, .int .i64 vi]] w fun e w' => e = .returned (.tuple #[]) ∧ RBlk w' K B P (N + 1) r' ∧ Touch (fun k => k = K ∨ k = B ∨ k = P) w w' := by
  have f2 : Fresh w ((w.alloc (.cells #[.slice (some ⟨K, 0, none⟩) r.sz r.sz, .slice (some ⟨B, 0, none⟩) r.sz r.sz, .map (some P), .bool a, .bool b] 66)).alloc (.cells #[.int .i64 ck, .int .u8 cb, .int .i64 v1, .int .u64 v2, .int .i64 v3, .int .i64 vi] 76)) := ((Fresh.refl w).alloc _ _).alloc _ _
  have h2 := h.fresh f2
  have hk := h2.kd off ho
  have hb := h2.by' off ho
  have hKl : K < w.heap.size := cell_lt (h.kd off ho)
  have hBl : B < w.heap.size := cell_lt (h.by' off ho)
  have hPl : P < w.heap.size := h.pc.lt
  have key : Key (off : Int) := Key.mk (by omega) (by omega)
  have hoI : (off : Int) < (r.sz : Int) := by omega
  have o0 : (0 : Int) ≤ (off : Int) := by omega
  have fK : ∀ o, ((w.alloc (.cells #[.slice (some ⟨K, 0, none⟩) r.sz r.sz, .slice (some ⟨B, 0, none⟩) r.sz r.sz, .map (some P), .bool a, .bool b] 66)).alloc (.cells #[.int .i64 ck, .int .u8 cb, .int .i64 v1, .int .u64 v2, .int .i64 v3, .int .i64 vi] 76)).frozen? ⟨K, o, none⟩ = false := fun o => by rw [f2.froz]; exact hfK o
  have fB : ∀ o, ((w.alloc (.cells #[.slice (some ⟨K, 0, none⟩) r.sz r.sz, .slice (some ⟨B, 0, none⟩) r.sz r.sz, .map (some P), .bool a, .bool b] 66)).alloc (.cells #[.int .i64 ck, .int .u8 cb, .int .i64 v1, .int .u64 v2, .int .i64 v3, .int .i64 vi] 76)).frozen? ⟨B, o, none⟩ = false := fun o => by rw [f2.froz]; exact hfB o
  have y0 : ((w.alloc (.cells #[.slice (some ⟨K, 0, none⟩) r.sz r.sz, .slice (some ⟨B, 0, none⟩) r.sz r.sz, .map (some P), .bool a, .bool b] 66)).alloc (.cells #[.int .i64 ck, .int .u8 cb, .int .i64 v1, .int .u64 v2, .int .i64 v3, .int .i64 vi] 76)).cell? ⟨w.heap.size, 0, none⟩ = some (.slice (some ⟨K, 0, none⟩) r.sz r.sz) := by simp [go_sem]
  have y1 : ((w.alloc (.cells #[.slice (some ⟨K, 0, none⟩) r.sz r.sz, .slice (some ⟨B, 0, none⟩) r.sz r.sz, .map (some P), .bool a, .bool b] 66)).alloc (.cells #[.int .i64 ck, .int .u8 cb, .int .i64 v1, .int .u64 v2, .int .i64 v3, .int .i64 vi] 76)).cell? ⟨w.heap.size, 1, none⟩ = some (.slice (some ⟨B, 0, none⟩) r.sz r.sz) := by simp [go_sem]
  have y2 : ((w.alloc (.cells #[.slice (some ⟨K, 0, none⟩) r.sz r.sz, .slice (some ⟨B, 0, none⟩) r.sz r.sz, .map (some P), .bool a, .bool b] 66)).alloc (.cells #[.int .i64 ck, .int .u8 cb, .int .i64 v1, .int .u64 v2, .int .i64 v3, .int .i64 vi] 76)).cell? ⟨w.heap.size, 2, none⟩ = some (.map (some P)) := by simp [go_sem]
  have z0 : ((w.alloc (.cells #[.slice (some ⟨K, 0, none⟩) r.sz r.sz, .slice (some ⟨B, 0, none⟩) r.sz r.sz, .map (some P), .bool a, .bool b] 66)).alloc (.cells #[.int .i64 ck, .int .u8 cb, .int .i64 v1, .int .u64 v2, .int .i64 v3, .int .i64 vi] 76)).cell? ⟨w.heap.size + 1, 0, none⟩ = some (.int .i64 ck) := by simp [go_sem]
  have z1 : ((w.alloc (.cells #[.slice (some ⟨K, 0, none⟩) r.sz r.sz, .slice (some ⟨B, 0, none⟩) r.sz r.sz, .map (some P), .bool a, .bool b] 66)).alloc (.cells #[.int .i64 ck, .int .u8 cb, .int .i64 v1, .int .u64 v2, .int .i64 v3, .int .i64 vi] 76)).cell? ⟨w.heap.size + 1, 1, none⟩ = some (.int .u8 cb) := by simp [go_sem]
  have z2 : ((w.alloc (.cells #[.slice (some ⟨K, 0, none⟩) r.sz r.sz, .slice (some ⟨B, 0, none⟩) r.sz r.sz, .map (some P), .bool a, .bool b] 66)).alloc (.cells #[.int .i64 ck, .int .u8 cb, .int .i64 v1, .int .u64 v2, .int .i64 v3, .int .i64 vi] 76)).cell? ⟨w.heap.size + 1, 2, none⟩ = some (.int .i64 v1) := by simp [go_sem]
  have z3 : ((w.alloc (.cells #[.slice (some ⟨K, 0, none⟩) r.sz r.sz, .slice (some ⟨B, 0, none⟩) r.sz r.sz, .map (some P), .bool a, .bool b] 66)).alloc (.cells #[.int .i64 ck, .int .u8 cb, .int .i64 v1, .int .u64 v2, .int .i64 v3, .int .i64 vi] 76)).cell? ⟨w.heap.size + 1, 3, none⟩ = some (.int .u64 v2) := by simp [go_sem]
  have z4 : ((w.alloc (.cells #[.slice (some ⟨K, 0, none⟩) r.sz r.sz, .slice (some ⟨B, 0, none⟩) r.sz r.sz, .map (some P), .bool a, .bool b] 66)).alloc (.cells #[.int .i64 ck, .int .u8 cb, .int .i64 v1, .int .u64 v2, .int .i64 v3, .int .i64 vi] 76)).cell? ⟨w.heap.size + 1, 4, none⟩ = some (.int .i64 v3) := by simp [go_sem]
  have z5 : ((w.alloc (.cells #[.slice (some ⟨K, 0, none⟩) r.sz r.sz, .slice (some ⟨B, 0, none⟩) r.sz r.sz, .map (some P), .bool a, .bool b] 66)).alloc (.cells #[.int .i64 ck, .int .u8 cb, .int .i64 v1, .int .u64 v2, .int .i64 v3, .int .i64 vi] 76)).cell? ⟨w.heap.size + 1, 5, none⟩ = some (.int .i64 vi) := by simp [go_sem]
  have hm2 : MapF Try.prog 3 ((w.alloc (.cells #[.slice (some ⟨K, 0, none⟩) r.sz r.sz, .slice (some ⟨B, 0, none⟩) r.sz r.sz, .map (some P), .bool a, .bool b] 66)).alloc (.cells #[.int .i64 ck, .int .u8 cb, .int .i64 v1, .int .u64 v2, .int .i64 v3, .int .i64 vi] 76)) P N (pcV r) := h2.pc
  replace hm2 := Lib.hid hm2
  have KEY := Lib.hid key
  have HN := Lib.hid hN
  rw [hk2] at hk
  have HF0 := Lib.hid hf0
  have hwc : IntKind.u8.wrap ck = ck := IntWalk.u8_in _ (by omega)
  have D := Lib.hid (fun X Y Z N' => D' ((w.alloc (.cells #[.slice (some ⟨K, 0, none⟩) r.sz r.sz, .slice (some ⟨B, 0, none⟩) r.sz r.sz, .map (some P), .bool a, .bool b] 66)).alloc (.cells #[.int .i64 ck, .int .u8 cb, .int .i64 v1, .int .u64 v2, .int .i64 v3, .int .i64 vi] 76)) X Y Z N' f2)
  have nKw : ¬ (K = w.heap.size) := by omega
  have nKw1 : ¬ (K = w.heap.size + 1) := by omega
  have nBw : ¬ (B = w.heap.size) := by omega
  have nBw1 : ¬ (B = w.heap.size + 1) := by omega
  have nPw : ¬ (w.heap.size = P) := by omega
  have nPw1 : ¬ (w.heap.size + 1 = P) := by omega
  clear h h2 f2 hKl hBl hPl key hN hfK hfB ho hz hf0 D' hck
  go_enter Try.func46, Try.ntmps46
  go_upto_region 1 with fail
  generalize hW2 : ((w.alloc (.cells #[.slice (some ⟨K, 0, none⟩) r.sz r.sz, .slice (some ⟨B, 0, none⟩) r.sz r.sz, .map (some P), .bool a, .bool b] 66)).alloc (.cells #[.int .i64 ck, .int .u8 cb, .int .i64 v1, .int .u64 v2, .int .i64 v3, .int .i64 vi] 76)) = W2 at *
  clear hW2
  go_wp2_with (at_delete; refine wpList_dropF _ rfl _ _ 64 3 rfl 76 Try.underlying3 Try.underlying64 P N _ rfl hm2.out _ rfl KEY.out ?_; intro w1 hown1 hturn1)
  have t1 : Touch (fun k => k = P) W2 w1 := (Touch.refl _ _).turned hturn1 (Or.inl rfl)
  replace hk := t1.cellOf hKP hk
  replace hb := t1.cellOf hBP hb
  replace y0 := t1.cellOf (fun e => nPw e) y0
  replace y1 := t1.cellOf (fun e => nPw e) y1
  replace y2 := t1.cellOf (fun e => nPw e) y2
  replace z0 := t1.cellOf (fun e => nPw1 e) z0
  replace z1 := t1.cellOf (fun e => nPw1 e) z1
  replace z2 := t1.cellOf (fun e => nPw1 e) z2
  replace z3 := t1.cellOf (fun e => nPw1 e) z3
  replace z4 := t1.cellOf (fun e => nPw1 e) z4
  replace z5 := t1.cellOf (fun e => nPw1 e) z5
  replace fK : ∀ o, w1.frozen? ⟨K, o, none⟩ = false := fun o => by rw [t1.froz]; exact fK o
  replace fB : ∀ o, w1.frozen? ⟨B, o, none⟩ = false := fun o => by rw [t1.froz]; exact fB o
  have T1 := Lib.hid t1
  rw [← HF0.out] at hown1
  have HM := Lib.hid hown1
  clear t1 hown1 hturn1 hm2 HF0 hk2
  apply cont_of
  · intro CONT
    go_region
    all_goals exact CONT
  have Y1 := Lib.hid (Fresh.refl ((w1.setCell ⟨K, off, none⟩ (.int .u8 ck)).setCell ⟨B, off, none⟩ (.int .u8 cb)).drew)
  have qy2 : ((w1.setCell ⟨K, off, none⟩ (.int .u8 ck)).setCell ⟨B, off, none⟩ (.int .u8 cb)).drew.cell? ⟨w.heap.size, 2, none⟩ = some (.map (some P)) := by rw [show ∀ W : World, W.drew.cell? _ = W.cell? _ from fun _ => rfl, World.cell?_setCell_other _ _ _ _ (fun e => nBw (congrArg Addr.block e)), World.cell?_setCell_other _ _ _ _ (fun e => nKw (congrArg Addr.block e))]; exact y2
  have qz0 : ((w1.setCell ⟨K, off, none⟩ (.int .u8 ck)).setCell ⟨B, off, none⟩ (.int .u8 cb)).drew.cell? ⟨w.heap.size + 1, 0, none⟩ = some (.int .i64 ck) := by rw [show ∀ W : World, W.drew.cell? _ = W.cell? _ from fun _ => rfl, World.cell?_setCell_other _ _ _ _ (fun e => nBw1 (congrArg Addr.block e)), World.cell?_setCell_other _ _ _ _ (fun e => nKw1 (congrArg Addr.block e))]; exact z0
  have qz1 : ((w1.setCell ⟨K, off, none⟩ (.int .u8 ck)).setCell ⟨B, off, none⟩ (.int .u8 cb)).drew.cell? ⟨w.heap.size + 1, 1, none⟩ = some (.int .u8 cb) := by rw [show ∀ W : World, W.drew.cell? _ = W.cell? _ from fun _ => rfl, World.cell?_setCell_other _ _ _ _ (fun e => nBw1 (congrArg Addr.block e)), World.cell?_setCell_other _ _ _ _ (fun e => nKw1 (congrArg Addr.block e))]; exact z1
  have qz2 : ((w1.setCell ⟨K, off, none⟩ (.int .u8 ck)).setCell ⟨B, off, none⟩ (.int .u8 cb)).drew.cell? ⟨w.heap.size + 1, 2, none⟩ = some (.int .i64 v1) := by rw [show ∀ W : World, W.drew.cell? _ = W.cell? _ from fun _ => rfl, World.cell?_setCell_other _ _ _ _ (fun e => nBw1 (congrArg Addr.block e)), World.cell?_setCell_other _ _ _ _ (fun e => nKw1 (congrArg Addr.block e))]; exact z2
  have qz3 : ((w1.setCell ⟨K, off, none⟩ (.int .u8 ck)).setCell ⟨B, off, none⟩ (.int .u8 cb)).drew.cell? ⟨w.heap.size + 1, 3, none⟩ = some (.int .u64 v2) := by rw [show ∀ W : World, W.drew.cell? _ = W.cell? _ from fun _ => rfl, World.cell?_setCell_other _ _ _ _ (fun e => nBw1 (congrArg Addr.block e)), World.cell?_setCell_other _ _ _ _ (fun e => nKw1 (congrArg Addr.block e))]; exact z3
  have qz4 : ((w1.setCell ⟨K, off, none⟩ (.int .u8 ck)).setCell ⟨B, off, none⟩ (.int .u8 cb)).drew.cell? ⟨w.heap.size + 1, 4, none⟩ = some (.int .i64 v3) := by rw [show ∀ W : World, W.drew.cell? _ = W.cell? _ from fun _ => rfl, World.cell?_setCell_other _ _ _ _ (fun e => nBw1 (congrArg Addr.block e)), World.cell?_setCell_other _ _ _ _ (fun e => nKw1 (congrArg Addr.block e))]; exact z4
  have qz5 : ((w1.setCell ⟨K, off, none⟩ (.int .u8 ck)).setCell ⟨B, off, none⟩ (.int .u8 cb)).drew.cell? ⟨w.heap.size + 1, 5, none⟩ = some (.int .i64 vi) := by rw [show ∀ W : World, W.drew.cell? _ = W.cell? _ from fun _ => rfl, World.cell?_setCell_other _ _ _ _ (fun e => nBw1 (congrArg Addr.block e)), World.cell?_setCell_other _ _ _ _ (fun e => nKw1 (congrArg Addr.block e))]; exact z5
  clear hk hb y0 y1 y2 z0 z1 z2 z3 z4 z5 fK fB
  have FY : Fresh ((w1.setCell ⟨K, off, none⟩ (.int .u8 ck)).setCell ⟨B, off, none⟩ (.int .u8 cb)) ((w1.setCell ⟨K, off, none⟩ (.int .u8 ck)).setCell ⟨B, off, none⟩ (.int .u8 cb)).drew := (Fresh.refl _).drew
  have HM2 : MapF Try.prog 3 ((w1.setCell ⟨K, off, none⟩ (.int .u8 ck)).setCell ⟨B, off, none⟩ (.int .u8 cb)).drew P N f0 := ((HM.out.setCell (a := ⟨K, off, none⟩) (fun e => hKP e.symm) _).setCell (a := ⟨B, off, none⟩) (fun e => hBP e.symm) _).drew
  replace FY := Lib.hid FY
  replace HM2 := Lib.hid HM2
  generalize ((w1.setCell ⟨K, off, none⟩ (.int .u8 ck)).setCell ⟨B, off, none⟩ (.int .u8 cb)).drew = Y at *
  by_cases c2 : ck = 2
  · rw [c2] at qz0
    go_wp2_with (refine wpList_storeF _ rfl _ _ _ 64 rfl 3 76 Try.underlying3 Try.underlying64 P N _ rfl HM2.out HN.out _ rfl KEY.out (.agg #[.int .i64 2, .int .u8 cb, .int .i64 v1, .int .u64 v2, .int .i64 v3, .int .i64 vi]) rfl ?_; intro w3 hown3 hturn3)
    go_returns
    obtain ⟨r1, r2⟩ := D.out w1 Y w3 (N + 1) T1.out FY.out ((Touch.refl _ _).turned hturn3 (Or.inl rfl)) (Nat.le_refl _) (by rw [if_pos c2, c2]; exact hown3)
    exact ⟨rfl, r1, r2⟩
  · have d2 : (ck == 2) = false := by simpa using c2
    go_wp2_with fail
    go_returns
    obtain ⟨r1, r2⟩ := D.out w1 Y Y N T1.out FY.out (Touch.refl _ _) (Nat.le_succ N) (by rw [if_neg c2]; exact HM2.out)
    exact ⟨rfl, r1, r2⟩
theorem set_0 {K B P N : Nat} {r : RB} (a b : Bool) (ck cb v1 v2 v3 vi : Int) (r' : RB) (f0 : Int → Option Value) (off : Nat) (ho : off < r.sz) (hz : r.sz ≤ 16777216) (hN : N < maxLen) (hck : 0 ≤ ck ∧ ck < 256) (hKB : K ≠ B) (hKP : K ≠ P) (hBP : B ≠ P) (w : World) (hfK : ∀ o, w.frozen? ⟨K, o, none⟩ = false) (hfB : ∀ o, w.frozen? ⟨B, o, none⟩ = false) (h : RBlk w K B P N r) (hk2 : ¬ r.kd off = 2)
    (hf0 : f0 = pcV r) (D' : ∀ W2 X Y Z N', Fresh w W2 → Touch (fun k => k = P) W2 X → Fresh ((X.setCell ⟨K, off, none⟩ (.int .u8 ck)).setCell ⟨B, off, none⟩ (.int .u8 cb)) Y → Touch (fun k => k = P) Y Z → N' ≤ N + 1 → MapF Try.prog 3 Z P N' (if ck = 2 then putF f0 (off : Int) (.agg #[.int .i64 ck, .int .u8 cb, .int .i64 v1, .int .u64 v2, .int .i64 v3, .int .i64 vi]) else f0) → RBlk Z K B P (N + 1) r' ∧ Touch (fun k => k = K ∨ k = B ∨ k = P) w Z) :
    Calls Try.prog 46 #[.agg #[.slice (some ⟨K, 0, none⟩) r.sz r.sz, .slice (some ⟨B, 0, none⟩) r.sz r.sz, .map (some P), .bool a, .bool b], .int .i64 (off : Int), .agg #[.int .i64 ck, .int .u8 cb, .int .i64 v1, .int .u64 v2, .int .i64 v3, .int .i64 vi]] w fun e w' => e = .returned (.tuple #[]) ∧ RBlk w' K B P (N + 1) r' ∧ Touch (fun k => k = K ∨ k = B ∨ k = P) w w' := by
  have f2 : Fresh w ((w.alloc (.cells #[.slice (some ⟨K, 0, none⟩) r.sz r.sz, .slice (some ⟨B, 0, none⟩) r.sz r.sz, .map (some P), .bool a, .bool b] 66)).alloc (.cells #[.int .i64 ck, .int .u8 cb, .int .i64 v1, .int .u64 v2, .int .i64 v3, .int .i64 vi] 76)) := ((Fresh.refl w).alloc _ _).alloc _ _
  have h2 := h.fresh f2
  have hk := h2.kd off ho
  have hb := h2.by' off ho
  have hKl : K < w.heap.size := cell_lt (h.kd off ho)
  have hBl : B < w.heap.size := cell_lt (h.by' off ho)
  have hPl : P < w.heap.size := h.pc.lt
  have key : Key (off : Int) := Key.mk (by omega) (by omega)
  have hoI : (off : Int) < (r.sz : Int) := by omega
  have o0 : (0 : Int) ≤ (off : Int) := by omega
  have fK : ∀ o, ((w.alloc (.cells #[.slice (some ⟨K, 0, none⟩) r.sz r.sz, .slice (some ⟨B, 0, none⟩) r.sz r.sz, .map (some P), .bool a, .bool b] 66)).alloc (.cells #[.int .i64 ck, .int .u8 cb, .int .i64 v1, .int .u64 v2, .int .i64 v3, .int .i64 vi] 76)).frozen? ⟨K, o, none⟩ = false := fun o => by rw [f2.froz]; exact hfK o
  have fB : ∀ o, ((w.alloc (.cells #[.slice (some ⟨K, 0, none⟩) r.sz r.sz, .slice (some ⟨B, 0, none⟩) r.sz r.sz, .map (some P), .bool a, .bool b] 66)).alloc (.cells #[.int .i64 ck, .int .u8 cb, .int .i64 v1, .int .u64 v2, .int .i64 v3, .int .i64 vi] 76)).frozen? ⟨B, o, none⟩ = false := fun o => by rw [f2.froz]; exact hfB o
  have y0 : ((w.alloc (.cells #[.slice (some ⟨K, 0, none⟩) r.sz r.sz, .slice (some ⟨B, 0, none⟩) r.sz r.sz, .map (some P), .bool a, .bool b] 66)).alloc (.cells #[.int .i64 ck, .int .u8 cb, .int .i64 v1, .int .u64 v2, .int .i64 v3, .int .i64 vi] 76)).cell? ⟨w.heap.size, 0, none⟩ = some (.slice (some ⟨K, 0, none⟩) r.sz r.sz) := by simp [go_sem]
  have y1 : ((w.alloc (.cells #[.slice (some ⟨K, 0, none⟩) r.sz r.sz, .slice (some ⟨B, 0, none⟩) r.sz r.sz, .map (some P), .bool a, .bool b] 66)).alloc (.cells #[.int .i64 ck, .int .u8 cb, .int .i64 v1, .int .u64 v2, .int .i64 v3, .int .i64 vi] 76)).cell? ⟨w.heap.size, 1, none⟩ = some (.slice (some ⟨B, 0, none⟩) r.sz r.sz) := by simp [go_sem]
  have y2 : ((w.alloc (.cells #[.slice (some ⟨K, 0, none⟩) r.sz r.sz, .slice (some ⟨B, 0, none⟩) r.sz r.sz, .map (some P), .bool a, .bool b] 66)).alloc (.cells #[.int .i64 ck, .int .u8 cb, .int .i64 v1, .int .u64 v2, .int .i64 v3, .int .i64 vi] 76)).cell? ⟨w.heap.size, 2, none⟩ = some (.map (some P)) := by simp [go_sem]
  have z0 : ((w.alloc (.cells #[.slice (some ⟨K, 0, none⟩) r.sz r.sz, .slice (some ⟨B, 0, none⟩) r.sz r.sz, .map (some P), .bool a, .bool b] 66)).alloc (.cells #[.int .i64 ck, .int .u8 cb, .int .i64 v1, .int .u64 v2, .int .i64 v3, .int .i64 vi] 76)).cell? ⟨w.heap.size + 1, 0, none⟩ = some (.int .i64 ck) := by simp [go_sem]
  have z1 : ((w.alloc (.cells #[.slice (some ⟨K, 0, none⟩) r.sz r.sz, .slice (some ⟨B, 0, none⟩) r.sz r.sz, .map (some P), .bool a, .bool b] 66)).alloc (.cells #[.int .i64 ck, .int .u8 cb, .int .i64 v1, .int .u64 v2, .int .i64 v3, .int .i64 vi] 76)).cell? ⟨w.heap.size + 1, 1, none⟩ = some (.int .u8 cb) := by simp [go_sem]
  have z2 : ((w.alloc (.cells #[.slice (some ⟨K, 0, none⟩) r.sz r.sz, .slice (some ⟨B, 0, none⟩) r.sz r.sz, .map (some P), .bool a, .bool b] 66)).alloc (.cells #[.int .i64 ck, .int .u8 cb, .int .i64 v1, .int .u64 v2, .int .i64 v3, .int .i64 vi] 76)).cell? ⟨w.heap.size + 1, 2, none⟩ = some (.int .i64 v1) := by simp [go_sem]
  have z3 : ((w.alloc (.cells #[.slice (some ⟨K, 0, none⟩) r.sz r.sz, .slice (some ⟨B, 0, none⟩) r.sz r.sz, .map (some P), .bool a, .bool b] 66)).alloc (.cells #[.int .i64 ck, .int .u8 cb, .int .i64 v1, .int .u64 v2, .int .i64 v3, .int .i64 vi] 76)).cell? ⟨w.heap.size + 1, 3, none⟩ = some (.int .u64 v2) := by simp [go_sem]
  have z4 : ((w.alloc (.cells #[.slice (some ⟨K, 0, none⟩) r.sz r.sz, .slice (some ⟨B, 0, none⟩) r.sz r.sz, .map (some P), .bool a, .bool b] 66)).alloc (.cells #[.int .i64 ck, .int .u8 cb, .int .i64 v1, .int .u64 v2, .int .i64 v3, .int .i64 vi] 76)).cell? ⟨w.heap.size + 1, 4, none⟩ = some (.int .i64 v3) := by simp [go_sem]
  have z5 : ((w.alloc (.cells #[.slice (some ⟨K, 0, none⟩) r.sz r.sz, .slice (some ⟨B, 0, none⟩) r.sz r.sz, .map (some P), .bool a, .bool b] 66)).alloc (.cells #[.int .i64 ck, .int .u8 cb, .int .i64 v1, .int .u64 v2, .int .i64 v3, .int .i64 vi] 76)).cell? ⟨w.heap.size + 1, 5, none⟩ = some (.int .i64 vi) := by simp [go_sem]
  have hm2 : MapF Try.prog 3 ((w.alloc (.cells #[.slice (some ⟨K, 0, none⟩) r.sz r.sz, .slice (some ⟨B, 0, none⟩) r.sz r.sz, .map (some P), .bool a, .bool b] 66)).alloc (.cells #[.int .i64 ck, .int .u8 cb, .int .i64 v1, .int .u64 v2, .int .i64 v3, .int .i64 vi] 76)) P N (pcV r) := h2.pc
  rw [← hf0] at hm2
  replace hm2 := Lib.hid hm2
  have KEY := Lib.hid key
  have HN := Lib.hid hN
  have hk3 : ((r.kd off : Int) == 2) = false := by simp only [beq_eq_false_iff_ne]; omega
  have hkk : ¬ ((r.kd off : Int) = 2) := by omega
  have hwc : IntKind.u8.wrap ck = ck := IntWalk.u8_in _ (by omega)
  have D := Lib.hid (fun X Y Z N' => D' ((w.alloc (.cells #[.slice (some ⟨K, 0, none⟩) r.sz r.sz, .slice (some ⟨B, 0, none⟩) r.sz r.sz, .map (some P), .bool a, .bool b] 66)).alloc (.cells #[.int .i64 ck, .int .u8 cb, .int .i64 v1, .int .u64 v2, .int .i64 v3, .int .i64 vi] 76)) X Y Z N' f2)
  have nKw : ¬ (K = w.heap.size) := by omega
  have nKw1 : ¬ (K = w.heap.size + 1) := by omega
  have nBw : ¬ (B = w.heap.size) := by omega
  have nBw1 : ¬ (B = w.heap.size + 1) := by omega
  have nPw : ¬ (w.heap.size = P) := by omega
  have nPw1 : ¬ (w.heap.size + 1 = P) := by omega
  clear h h2 f2 hKl hBl hPl key hN hfK hfB ho hz hf0 D' hck
  go_enter Try.func46, Try.ntmps46
  go_upto_region 1 with fail
  generalize hW2 : ((w.alloc (.cells #[.slice (some ⟨K, 0, none⟩) r.sz r.sz, .slice (some ⟨B, 0, none⟩) r.sz r.sz, .map (some P), .bool a, .bool b] 66)).alloc (.cells #[.int .i64 ck, .int .u8 cb, .int .i64 v1, .int .u64 v2, .int .i64 v3, .int .i64 vi] 76)) = W2 at *
  clear hW2
  go_upto_region 3 with fail
  have T1 := Lib.hid (Touch.refl (fun k => k = P) W2)
  have HM := hm2
  obtain ⟨w1, hw1⟩ : ∃ w1, w1 = W2 := ⟨_, rfl⟩
  rw [← hw1] at hk hb y0 y1 y2 z0 z1 z2 z3 z4 z5 fK fB HM ⊢
  have T1 : Hid (Touch (fun k => k = P) W2 w1) := by rw [hw1]; exact T1
  clear hw1 hm2
  apply cont_of
  · intro CONT
    go_region
    all_goals exact CONT
  have Y1 := Lib.hid (Fresh.refl ((w1.setCell ⟨K, off, none⟩ (.int .u8 ck)).setCell ⟨B, off, none⟩ (.int .u8 cb)).drew)
  have qy2 : ((w1.setCell ⟨K, off, none⟩ (.int .u8 ck)).setCell ⟨B, off, none⟩ (.int .u8 cb)).drew.cell? ⟨w.heap.size, 2, none⟩ = some (.map (some P)) := by rw [show ∀ W : World, W.drew.cell? _ = W.cell? _ from fun _ => rfl, World.cell?_setCell_other _ _ _ _ (fun e => nBw (congrArg Addr.block e)), World.cell?_setCell_other _ _ _ _ (fun e => nKw (congrArg Addr.block e))]; exact y2
  have qz0 : ((w1.setCell ⟨K, off, none⟩ (.int .u8 ck)).setCell ⟨B, off, none⟩ (.int .u8 cb)).drew.cell? ⟨w.heap.size + 1, 0, none⟩ = some (.int .i64 ck) := by rw [show ∀ W : World, W.drew.cell? _ = W.cell? _ from fun _ => rfl, World.cell?_setCell_other _ _ _ _ (fun e => nBw1 (congrArg Addr.block e)), World.cell?_setCell_other _ _ _ _ (fun e => nKw1 (congrArg Addr.block e))]; exact z0
  have qz1 : ((w1.setCell ⟨K, off, none⟩ (.int .u8 ck)).setCell ⟨B, off, none⟩ (.int .u8 cb)).drew.cell? ⟨w.heap.size + 1, 1, none⟩ = some (.int .u8 cb) := by rw [show ∀ W : World, W.drew.cell? _ = W.cell? _ from fun _ => rfl, World.cell?_setCell_other _ _ _ _ (fun e => nBw1 (congrArg Addr.block e)), World.cell?_setCell_other _ _ _ _ (fun e => nKw1 (congrArg Addr.block e))]; exact z1
  have qz2 : ((w1.setCell ⟨K, off, none⟩ (.int .u8 ck)).setCell ⟨B, off, none⟩ (.int .u8 cb)).drew.cell? ⟨w.heap.size + 1, 2, none⟩ = some (.int .i64 v1) := by rw [show ∀ W : World, W.drew.cell? _ = W.cell? _ from fun _ => rfl, World.cell?_setCell_other _ _ _ _ (fun e => nBw1 (congrArg Addr.block e)), World.cell?_setCell_other _ _ _ _ (fun e => nKw1 (congrArg Addr.block e))]; exact z2
  have qz3 : ((w1.setCell ⟨K, off, none⟩ (.int .u8 ck)).setCell ⟨B, off, none⟩ (.int .u8 cb)).drew.cell? ⟨w.heap.size + 1, 3, none⟩ = some (.int .u64 v2) := by rw [show ∀ W : World, W.drew.cell? _ = W.cell? _ from fun _ => rfl, World.cell?_setCell_other _ _ _ _ (fun e => nBw1 (congrArg Addr.block e)), World.cell?_setCell_other _ _ _ _ (fun e => nKw1 (congrArg Addr.block e))]; exact z3
  have qz4 : ((w1.setCell ⟨K, off, none⟩ (.int .u8 ck)).setCell ⟨B, off, none⟩ (.int .u8 cb)).drew.cell? ⟨w.heap.size + 1, 4, none⟩ = some (.int .i64 v3) := by rw [show ∀ W : World, W.drew.cell? _ = W.cell? _ from fun _ => rfl, World.cell?_setCell_other _ _ _ _ (fun e => nBw1 (congrArg Addr.block e)), World.cell?_setCell_other _ _ _ _ (fun e => nKw1 (congrArg Addr.block e))]; exact z4
  have qz5 : ((w1.setCell ⟨K, off, none⟩ (.int .u8 ck)).setCell ⟨B, off, none⟩ (.int .u8 cb)).drew.cell? ⟨w.heap.size + 1, 5, none⟩ = some (.int .i64 vi) := by rw [show ∀ W : World, W.drew.cell? _ = W.cell? _ from fun _ => rfl, World.cell?_setCell_other _ _ _ _ (fun e => nBw1 (congrArg Addr.block e)), World.cell?_setCell_other _ _ _ _ (fun e => nKw1 (congrArg Addr.block e))]; exact z5
  clear hk hb y0 y1 y2 z0 z1 z2 z3 z4 z5 fK fB
  have FY : Fresh ((w1.setCell ⟨K, off, none⟩ (.int .u8 ck)).setCell ⟨B, off, none⟩ (.int .u8 cb)) ((w1.setCell ⟨K, off, none⟩ (.int .u8 ck)).setCell ⟨B, off, none⟩ (.int .u8 cb)).drew := (Fresh.refl _).drew
  have HM2 : MapF Try.prog 3 ((w1.setCell ⟨K, off, none⟩ (.int .u8 ck)).setCell ⟨B, off, none⟩ (.int .u8 cb)).drew P N f0 := ((HM.out.setCell (a := ⟨K, off, none⟩) (fun e => hKP e.symm) _).setCell (a := ⟨B, off, none⟩) (fun e => hBP e.symm) _).drew
  replace FY := Lib.hid FY
  replace HM2 := Lib.hid HM2
  generalize ((w1.setCell ⟨K, off, none⟩ (.int .u8 ck)).setCell ⟨B, off, none⟩ (.int .u8 cb)).drew = Y at *
  by_cases c2 : ck = 2
  · rw [c2] at qz0
    go_wp2_with (refine wpList_storeF _ rfl _ _ _ 64 rfl 3 76 Try.underlying3 Try.underlying64 P N _ rfl HM2.out HN.out _ rfl KEY.out (.agg #[.int .i64 2, .int .u8 cb, .int .i64 v1, .int .u64 v2, .int .i64 v3, .int .i64 vi]) rfl ?_; intro w3 hown3 hturn3)
    go_returns
    obtain ⟨r1, r2⟩ := D.out w1 Y w3 (N + 1) T1.out FY.out ((Touch.refl _ _).turned hturn3 (Or.inl rfl)) (Nat.le_refl _) (by rw [if_pos c2, c2]; exact hown3)
    exact ⟨rfl, r1, r2⟩
  · have d2 : (ck == 2) = false := by simpa using c2
    go_wp2_with fail
    go_returns
    obtain ⟨r1, r2⟩ := D.out w1 Y Y N T1.out FY.out (Touch.refl _ _) (Nat.le_succ N) (by rw [if_neg c2]; exact HM2.out)
    exact ⟨rfl, r1, r2⟩
/-- set, whatever stood there. -/
theorem set_any {K B P N : Nat} {r : RB} (a b : Bool) (c : RC) (hcb : c.by' < 256) (off : Nat) (ho : off < r.sz) (hz : r.sz ≤ 16777216) (hN : N < maxLen) (hKB : K ≠ B) (hKP : K ≠ P) (hBP : B ≠ P) (w : World) (hfK : ∀ o, w.frozen? ⟨K, o, none⟩ = false) (hfB : ∀ o, w.frozen? ⟨B, o, none⟩ = false) (h : RBlk w K B P N r) :
    Calls Try.prog 46 #[.agg #[.slice (some ⟨K, 0, none⟩) r.sz r.sz, .slice (some ⟨B, 0, none⟩) r.sz r.sz, .map (some P), .bool a, .bool b], .int .i64 (off : Int), rcV c] w fun e w' => e = .returned (.tuple #[]) ∧ RBlk w' K B P (N + 1) (setR r off c) ∧ Touch (fun k => k = K ∨ k = B ∨ k = P) w w' := by
  have hKl : K < w.heap.size := cell_lt (h.kd off ho)
  have hBl : B < w.heap.size := cell_lt (h.by' off ho)
  have hck : 0 ≤ (c.kd : Int) ∧ (c.kd : Int) < 256 := by cases c <;> simp [RC.kd]
  by_cases hk : r.kd off = 2
  · refine set_2 a b (c.kd : Int) (c.by' : Int) c.v1 c.v2 c.v3 c.ix (setR r off c) (delF (pcV r) (off : Int)) off ho hz hN hck hKB hKP hBP w hfK hfB h hk rfl (fun W2 X Y Z N' a0 a1 a2 a3 a4 a5 => ?_)
    refine set_done h hKl hBl a0 a1 a2 a3 ?_ hKB hKP hBP
    by_cases hc : c.kd = 2
    · rw [if_pos (by omega)] at a5
      rw [← pcV_rc r off c hc (delF (pcV r) (off : Int)) (fun x hx => by unfold delF; rw [if_neg hx])]
      exact a5.mono a4
    · rw [if_neg (by omega)] at a5
      rw [← pcV_del r off c hc hk]
      exact a5.mono a4
  · refine set_0 a b (c.kd : Int) (c.by' : Int) c.v1 c.v2 c.v3 c.ix (setR r off c) (pcV r) off ho hz hN hck hKB hKP hBP w hfK hfB h hk rfl (fun W2 X Y Z N' a0 a1 a2 a3 a4 a5 => ?_)
    refine set_done h hKl hBl a0 a1 a2 a3 ?_ hKB hKP hBP
    by_cases hc : c.kd = 2
    · rw [if_pos (by omega)] at a5
      rw [← pcV_rc r off c hc (pcV r) (fun x hx => rfl)]
      exact a5.mono a4
    · rw [if_neg (by omega)] at a5
      rw [← pcV_stay r off c hc hk]
      exact a5.mono a4
end
end Go.Proofs.Ytjbflmpnmobngaa
