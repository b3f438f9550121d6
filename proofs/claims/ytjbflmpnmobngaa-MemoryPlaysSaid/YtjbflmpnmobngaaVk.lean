/- The reference's memory: Load, its two loops. -/
import Derived.Test.YtjbflmpnmobngaaVj
namespace Go.Proofs.Ytjbflmpnmobngaa
set_option linter.unusedSimpArgs false
set_option linter.unusedVariables false
open Go.RowKit

/-- What stands while Load gathers cells: the boxes of the address and of the answer, the row of cells. -/
structure LS (w wr : World) (k n b : Int) (v : Value) (j : Nat) (r : RB) (off : Nat) : Prop where
  fr : Fresh w wr
  a : Own wr w.heap.size k n b
  z : Own wr (w.heap.size + 1) 0 0 0
  own : wr.ownsRow (w.heap.size + 2) 76 6 v j (rowC r off j)
variable {w wr w' : World} {k n b : Int} {v : Value} {j : Nat} {r : RB} {off : Nat}
theorem LS.later (h : LS w wr k n b v j r off) (f : Fresh wr w') : LS w w' k n b v j r off :=
  ⟨h.fr.trans f, h.a.later f, h.z.later f, own_block h.own fun g hg => f.below.block g (h.own.lt g hg).2⟩
theorem LS.zf (h : LS w wr k n b v j r off) (hz : ∀ o, w.frozen? ⟨w.heap.size + 1, o, none⟩ = false) (o : Nat) : wr.frozen? ⟨w.heap.size + 1, o, none⟩ = false := by rw [h.fr.froz]; exact hz o
theorem LS.next (h : LS w wr k n b v j r off) {Y : World} (f : Fresh wr Y) {v' : Value} (ho : w'.ownsRow (w.heap.size + 2) 76 6 v' (j + 1) (rowC r off j ++ six r (off + j))) (ht : Touch (fun k => v.ownBlock = some k) Y w') : LS w w' k n b v' (j + 1) r off := by
  have hY := h.later f
  have lo : ∀ x, v.ownBlock = some x → w.heap.size + 2 ≤ x := fun x hx => (h.own.lt x hx).1
  have na : ¬ v.ownBlock = some w.heap.size := fun e => by have := lo _ e; omega
  have nz : ¬ v.ownBlock = some (w.heap.size + 1) := fun e => by have := lo _ e; omega
  refine ⟨Touch.fresh_of hY.fr ht (fun x hx => by have := lo x hx; omega), ⟨Nat.lt_of_lt_of_le hY.a.size ht.size, ht.cellOf na hY.a.c0, ht.cellOf na hY.a.c1, ht.cellOf na hY.a.c2⟩, ⟨Nat.lt_of_lt_of_le hY.z.size ht.size, ht.cellOf nz hY.z.c0, ht.cellOf nz hY.z.c1, ht.cellOf nz hY.z.c2⟩, ho⟩
theorem LS.start (w : World) (k n b : Int) (r : RB) (off : Nat) (f : Fresh ((w.alloc (.cells #[.int .i64 k, .int .u64 n, .int .i64 b] 32)).alloc (.cells #[.int .i64 0, .int .u64 0, .int .i64 0] 32)) w') : LS w w' k n b (.slice none 0 0) 0 r off := by
  have h2 : LS w ((w.alloc (.cells #[.int .i64 k, .int .u64 n, .int .i64 b] 32)).alloc (.cells #[.int .i64 0, .int .u64 0, .int .i64 0] 32)) k n b (.slice none 0 0) 0 r off := by
    refine ⟨((Fresh.refl w).alloc _ _).alloc _ _, (Own.new' w k n b).later ((Fresh.refl _).alloc _ _), ?_, World.ownsRow_nil ..⟩
    have := Own.new' (w.alloc (.cells #[.int .i64 k, .int .u64 n, .int .i64 b] 32)) 0 0 0
    simpa using this
  exact h2.later f
/-- What lies in the row at i. -/
theorem LS.cells (h : LS w wr k n b v j r off) {i : Nat} (hi : i < j) : ∃ g cap, v = .slice (some ⟨g, 0, none⟩) j cap ∧ ∀ m u, m < 6 → (six r (off + i))[m]? = some u → wr.cell? ⟨g, i * 6 + m, none⟩ = some u := by
  obtain ⟨p, cap, rfl, hp⟩ := own_slice h.own
  obtain ⟨g, rfl, hb, hf, hc⟩ := hp (by omega)
  exact ⟨g, cap, rfl, fun m u hm hu => hc _ _ (by rw [rowC_at r off j i m hi hm]; exact hu)⟩
theorem LS.at6 {g cap : Nat} (h : LS w wr k n b (.slice (some ⟨g, 0, none⟩) j cap) j r off) {i m : Nat} {u : Value} (hi : i < j) (hm : m < 6) (hu : (six r (off + i))[m]? = some u) : wr.cell? ⟨g, i * 6 + m, none⟩ = some u := by
  obtain ⟨g', cap', e, hc⟩ := h.cells hi
  injection e with e _ _
  injection e with e
  injection e with e _ _
  subst e
  exact hc m u hm hu
theorem eq_yes (x y z : Int) (w : World) : (binOp .eql 32 (.agg #[.int .i64 x, .int .u64 y, .int .i64 z]) (.agg #[.int .i64 x, .int .u64 y, .int .i64 z])).run Try.prog w = .ok (.bool true) w := by
  simp [go_sem]
theorem eq_no (x y z x' y' z' : Int) (h : (x, y, z) ≠ (x', y', z')) (w : World) : (binOp .eql 32 (.agg #[.int .i64 x, .int .u64 y, .int .i64 z]) (.agg #[.int .i64 x', .int .u64 y', .int .i64 z'])).run Try.prog w = .ok (.bool false) w := by
  by_cases h1 : x = x'
  · by_cases h2 : y = y'
    · by_cases h3 : z = z'
      · exact absurd (by rw [h1, h2, h3]) h
      · simp [go_sem, h1, h2, h3]
    · simp [go_sem, h1, h2]
  · simp [go_sem, h1]
theorem wrap_mul (x y : Int) : IntKind.u64.wrap (IntKind.u64.wrap x * y) = IntKind.u64.wrap (x * y) := by
  simp only [IntKind.wrap_u64]
  rw [Int.mul_emod, Int.emod_emod, ← Int.mul_emod]
theorem steps_1 (r : RB) (off i p : Nat) (hp : p = off + i) (h : r.kd p = 1) : cntB r off (i + 1) = cntB r off i + 1 ∧ cntP r off (i + 1) = cntP r off i ∧ accR r off (i + 1) = bits .or .u64 (accR r off i) (IntKind.u64.wrap (IntKind.u64.wrap (r.by' p : Int) * 2 ^ (8 * i))) := by
  subst hp
  refine ⟨?_, ?_, ?_⟩
  · rw [cntB, if_pos h]
  · rw [cntP, if_neg (by unfold isP; rw [h]; simp)]; rfl
  · rw [accR, if_pos h, wrap_mul]
theorem steps_p (r : RB) (off i p : Nat) (hp : p = off + i) (h : ¬ r.kd p = 1) (b : Bool) (hb : (decide (r.kd p = 2) && decide ((pcD r p).2 = i) && decide ((pcD r p).1 = (pcD r off).1)) = b) : cntB r off (i + 1) = cntB r off i ∧ cntP r off (i + 1) = cntP r off i + (if b = true then 1 else 0) ∧ accR r off (i + 1) = accR r off i := by
  subst hp
  refine ⟨?_, ?_, ?_⟩
  · rw [cntB, if_neg h]; rfl
  · rw [cntP, isP_D, hb]
  · rw [accR, if_neg h]
end Go.Proofs.Ytjbflmpnmobngaa
