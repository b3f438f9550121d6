/- The reference's memory: one cell of a block. -/
import Derived.Test.YtjbflmpnmobngaaVd
namespace Go.Proofs.Ytjbflmpnmobngaa
set_option linter.unusedSimpArgs false
set_option linter.unusedVariables false
open Go.RowKit

def pieceV (t : (Int × Int × Int) × Nat) : Value := .agg #[.int .i64 2, .int .u8 0, .int .i64 t.1.1, .int .u64 t.1.2.1, .int .i64 t.1.2.2, .int .i64 (t.2 : Int)]
def pcV (r : RB) (x : Int) : Option Value := if 0 ≤ x then (r.pc x.toNat).map pieceV else none
/-- A block of the reference in the heap. -/
structure RBlk (w : World) (K B P N : Nat) (r : RB) : Prop where
  kd : ∀ o, o < r.sz → w.cell? ⟨K, o, none⟩ = some (.int .u8 (r.kd o : Int))
  by' : ∀ o, o < r.sz → w.cell? ⟨B, o, none⟩ = some (.int .u8 (r.by' o : Int))
  pc : MapF Try.prog 3 w P N (pcV r)
  k3 : ∀ o, o < r.sz → r.kd o ≤ 2
  k2 : ∀ o, r.kd o = 2 → ∃ t, r.pc o = some t
theorem RBlk.fresh {w w' : World} {K B P N : Nat} {r : RB} (h : RBlk w K B P N r) (f : Fresh w w') : RBlk w' K B P N r :=
  ⟨fun o ho => fresh_at f (h.kd o ho), fun o ho => fresh_at f (h.by' o ho), h.pc.block (f.below.block _ h.pc.lt), h.k3, h.k2⟩
def zCell : Value := .agg #[.int .i64 0, .int .u8 0, .int .i64 0, .int .u64 0, .int .i64 0, .int .i64 0]
theorem zero76 (w : World) : (zeroValue 76).run Try.prog w = .ok zCell w := by kernel_rfl
def cellV (r : RB) (o : Nat) : Value := if r.kd o = 2 then ((r.pc o).map pieceV).getD zCell else .agg #[.int .i64 (r.kd o : Int), .int .u8 (r.by' o : Int), .int .i64 0, .int .u64 0, .int .i64 0, .int .i64 0]
section
set_option maxRecDepth 100000
set_option maxHeartbeats 2000000
theorem cell_any {K B P N : Nat} {r : RB} (a b : Bool) (o : Nat) (ho : o < r.sz) (hz : r.sz ≤ 16777216) (w : World) (h : RBlk w K B P N r) :
    Calls Try.prog 38 #[.agg #[.slice (some ⟨K, 0, none⟩) r.sz r.sz, .slice (some ⟨B, 0, none⟩) r.sz r.sz, .map (some P), .bool a, .bool b], .int .i64 (o : Int)] w fun e w' => e = .returned (cellV r o) ∧ Fresh w w' := by
  have f1 : Fresh w (w.alloc (.cells #[.slice (some ⟨K, 0, none⟩) r.sz r.sz, .slice (some ⟨B, 0, none⟩) r.sz r.sz, .map (some P), .bool a, .bool b] 66)) := (Fresh.refl w).alloc _ _
  have f2 := f1.alloc #[.int .i64 0, .int .u8 0, .int .i64 0, .int .u64 0, .int .i64 0, .int .i64 0] 76
  have h2 := h.fresh f2
  have hk := h2.kd o ho
  have hb := h2.by' o ho
  have key : Key (o : Int) := Key.mk (by omega) (by omega)
  have hlk := h2.pc.look (t := 64) (e := 76) (by kernel_rfl) (by kernel_rfl) (zero76 _) key
  have hpv : (pcV r (o : Int)) = (r.pc o).map pieceV := by unfold pcV; rw [if_pos (by omega), Int.toNat_natCast]
  rw [hpv] at hlk
  have hoI : (o : Int) < (r.sz : Int) := by omega
  have o0 : (0 : Int) ≤ (o : Int) := by omega
  have F := Lib.hid f2
  have HCV : Hid (cellV r o = if r.kd o = 2 then ((r.pc o).map pieceV).getD zCell else .agg #[.int .i64 (r.kd o : Int), .int .u8 (r.by' o : Int), .int .i64 0, .int .u64 0, .int .i64 0, .int .i64 0]) := Lib.hid rfl
  rw [HCV.out]
  have y0 : ((w.alloc (.cells #[.slice (some ⟨K, 0, none⟩) r.sz r.sz, .slice (some ⟨B, 0, none⟩) r.sz r.sz, .map (some P), .bool a, .bool b] 66)).alloc (.cells #[.int .i64 0, .int .u8 0, .int .i64 0, .int .u64 0, .int .i64 0, .int .i64 0] 76)).cell? ⟨w.heap.size, 0, none⟩ = some (.slice (some ⟨K, 0, none⟩) r.sz r.sz) := by simp [go_sem]
  have y1 : ((w.alloc (.cells #[.slice (some ⟨K, 0, none⟩) r.sz r.sz, .slice (some ⟨B, 0, none⟩) r.sz r.sz, .map (some P), .bool a, .bool b] 66)).alloc (.cells #[.int .i64 0, .int .u8 0, .int .i64 0, .int .u64 0, .int .i64 0, .int .i64 0] 76)).cell? ⟨w.heap.size, 1, none⟩ = some (.slice (some ⟨B, 0, none⟩) r.sz r.sz) := by simp [go_sem]
  have y2 : ((w.alloc (.cells #[.slice (some ⟨K, 0, none⟩) r.sz r.sz, .slice (some ⟨B, 0, none⟩) r.sz r.sz, .map (some P), .bool a, .bool b] 66)).alloc (.cells #[.int .i64 0, .int .u8 0, .int .i64 0, .int .u64 0, .int .i64 0, .int .i64 0] 76)).cell? ⟨w.heap.size, 2, none⟩ = some (.map (some P)) := by simp [go_sem]
  have z0 : ((w.alloc (.cells #[.slice (some ⟨K, 0, none⟩) r.sz r.sz, .slice (some ⟨B, 0, none⟩) r.sz r.sz, .map (some P), .bool a, .bool b] 66)).alloc (.cells #[.int .i64 0, .int .u8 0, .int .i64 0, .int .u64 0, .int .i64 0, .int .i64 0] 76)).cell? ⟨w.heap.size + 1, 0, none⟩ = some (.int .i64 0) := by simp [go_sem]
  have z1 : ((w.alloc (.cells #[.slice (some ⟨K, 0, none⟩) r.sz r.sz, .slice (some ⟨B, 0, none⟩) r.sz r.sz, .map (some P), .bool a, .bool b] 66)).alloc (.cells #[.int .i64 0, .int .u8 0, .int .i64 0, .int .u64 0, .int .i64 0, .int .i64 0] 76)).cell? ⟨w.heap.size + 1, 1, none⟩ = some (.int .u8 0) := by simp [go_sem]
  have z2 : ((w.alloc (.cells #[.slice (some ⟨K, 0, none⟩) r.sz r.sz, .slice (some ⟨B, 0, none⟩) r.sz r.sz, .map (some P), .bool a, .bool b] 66)).alloc (.cells #[.int .i64 0, .int .u8 0, .int .i64 0, .int .u64 0, .int .i64 0, .int .i64 0] 76)).cell? ⟨w.heap.size + 1, 2, none⟩ = some (.int .i64 0) := by simp [go_sem]
  have z3 : ((w.alloc (.cells #[.slice (some ⟨K, 0, none⟩) r.sz r.sz, .slice (some ⟨B, 0, none⟩) r.sz r.sz, .map (some P), .bool a, .bool b] 66)).alloc (.cells #[.int .i64 0, .int .u8 0, .int .i64 0, .int .u64 0, .int .i64 0, .int .i64 0] 76)).cell? ⟨w.heap.size + 1, 3, none⟩ = some (.int .u64 0) := by simp [go_sem]
  have z4 : ((w.alloc (.cells #[.slice (some ⟨K, 0, none⟩) r.sz r.sz, .slice (some ⟨B, 0, none⟩) r.sz r.sz, .map (some P), .bool a, .bool b] 66)).alloc (.cells #[.int .i64 0, .int .u8 0, .int .i64 0, .int .u64 0, .int .i64 0, .int .i64 0] 76)).cell? ⟨w.heap.size + 1, 4, none⟩ = some (.int .i64 0) := by simp [go_sem]
  have z5 : ((w.alloc (.cells #[.slice (some ⟨K, 0, none⟩) r.sz r.sz, .slice (some ⟨B, 0, none⟩) r.sz r.sz, .map (some P), .bool a, .bool b] 66)).alloc (.cells #[.int .i64 0, .int .u8 0, .int .i64 0, .int .u64 0, .int .i64 0, .int .i64 0] 76)).cell? ⟨w.heap.size + 1, 5, none⟩ = some (.int .i64 0) := by simp [go_sem]
  have zf : ∀ o, ((w.alloc (.cells #[.slice (some ⟨K, 0, none⟩) r.sz r.sz, .slice (some ⟨B, 0, none⟩) r.sz r.sz, .map (some P), .bool a, .bool b] 66)).alloc (.cells #[.int .i64 0, .int .u8 0, .int .i64 0, .int .u64 0, .int .i64 0, .int .i64 0] 76)).frozen? ⟨w.heap.size + 1, o, none⟩ = false := fun o => by simp [go_sem]
  obtain ⟨tt, htt⟩ : ∃ tt, r.kd o = 2 → r.pc o = some tt := by
    by_cases c : r.kd o = 2
    · obtain ⟨t, ht⟩ := h.k2 o c; exact ⟨t, fun _ => ht⟩
    · exact ⟨((0, 0, 0), 0), fun e => absurd e c⟩
  have hk2 := h.k3 o ho
  clear f1 f2 h2 hpv h ho
  by_cases c2 : r.kd o = 2
  · rw [if_pos c2, htt c2]
    rw [htt c2] at hlk
    rw [c2] at hk
    have hlk2 : ∀ ty : Unit, True := fun _ => trivial
    simp only [Option.map_some, Option.getD_some] at hlk
    obtain ⟨⟨v1, v2, v3⟩, vi⟩ := tt
    simp only [Option.map_some, Option.getD_some, pieceV] at hlk ⊢
    clear htt HCV key hb hk2 c2
    go_enter Try.func38, Try.ntmps38
    go_upto_region 1 with fail
    generalize ((w.alloc (.cells #[.slice (some ⟨K, 0, none⟩) r.sz r.sz, .slice (some ⟨B, 0, none⟩) r.sz r.sz, .map (some P), .bool a, .bool b] 66)).alloc (.cells #[.int .i64 0, .int .u8 0, .int .i64 0, .int .u64 0, .int .i64 0, .int .i64 0] 76)) = W2 at *
    go_wp2_with fail
    refine bodyPost_ret (v := ?_) ?_ rfl ?_; rotate_left 1; focus (simp [results, Try.results38, go_sem, *]; (try rfl); done)
    exact ⟨rfl, by (repeat' first | with_reducible exact F.out | with_reducible refine Fresh.drew ?_ | with_reducible refine Fresh.setCell ?_ ?_ _ | (simp; done) | (simp; omega))⟩
  · rw [if_neg c2]
    have hk3 : ((r.kd o : Int) == 2) = false := by simp only [beq_eq_false_iff_ne]; omega
    have hwk : IntKind.i64.wrap (r.kd o : Int) = (r.kd o : Int) := IntWalk.i64_in _ (by omega)
    clear htt HCV key hlk
    generalize r.kd o = kk at *
    generalize r.by' o = bb at *
    go_enter Try.func38, Try.ntmps38
    go_upto_region 1 with fail
    generalize ((w.alloc (.cells #[.slice (some ⟨K, 0, none⟩) r.sz r.sz, .slice (some ⟨B, 0, none⟩) r.sz r.sz, .map (some P), .bool a, .bool b] 66)).alloc (.cells #[.int .i64 0, .int .u8 0, .int .i64 0, .int .u64 0, .int .i64 0, .int .i64 0] 76)) = W2 at *
    go_upto_region 3 with fail
    go_region
    go_wp2_with fail
    refine bodyPost_ret (v := ?_) ?_ rfl ?_; rotate_left 1; focus (simp [results, Try.results38, go_sem, *]; (try rfl); done)
    exact ⟨rfl, by (repeat' first | with_reducible exact F.out | with_reducible refine Fresh.drew ?_ | with_reducible refine Fresh.setCell ?_ ?_ _ | (simp; done) | (simp; omega))⟩
end
end Go.Proofs.Ytjbflmpnmobngaa
