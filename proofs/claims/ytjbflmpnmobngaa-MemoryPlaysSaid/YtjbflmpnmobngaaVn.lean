/- The reference's memory: what stands while Store puts a value's bytes. -/
import Derived.Test.YtjbflmpnmobngaaVh
namespace Go.Proofs.Ytjbflmpnmobngaa
set_option linter.unusedSimpArgs false
set_option linter.unusedVariables false
open Go.RowKit

theorem set_same {α : Type} : ∀ (l : List α) (i : Nat) (x : α), l[i]? = some x → l.set i x = l
  | [], i, x, h => by simp at h
  | a :: r, 0, x, h => by simp at h; rw [h]; rfl
  | a :: r, i + 1, x, h => by
    simp only [List.getElem?_cons_succ] at h
    rw [List.set_cons_succ, set_same r i x h]
/-- The memory with block q turned to r; the boxes of the address and of the value. -/
structure SS (w wr : World) (M N : Nat) (v : Value) (L : RL) (q : Nat) (r : RB) (hd : Head) (f : Bool) (k n b k' n' b' : Int) : Prop where
  mem : RMem wr M N v (L.set q (some r, hd, f))
  a : Own wr w.heap.size k n b
  z : Own wr (w.heap.size + 1) k' n' b'
  t : Touch (fun x => x = hd.K ∨ x = hd.B ∨ x = hd.P) w wr
  lt : hd.K < w.heap.size ∧ hd.B < w.heap.size ∧ hd.P < w.heap.size
variable {w wr w' : World} {M N : Nat} {v : Value} {L : RL} {q : Nat} {r : RB} {hd : Head} {f : Bool} {k n b k' n' b' : Int}
theorem SS.later (h : SS w wr M N v L q r hd f k n b k' n' b') (g : Fresh wr w') : SS w w' M N v L q r hd f k n b k' n' b' :=
  ⟨h.mem.fresh g, h.a.later g, h.z.later g, h.t.fresh g, h.lt⟩
theorem SS.start (h : RMem w M N v L) (hi : L[q]? = some (some r, hd, f)) (k n b k' n' b' : Int) (g : Fresh ((w.alloc (.cells #[.int .i64 k, .int .u64 n, .int .i64 b] 32)).alloc (.cells #[.int .i64 k', .int .u64 n', .int .i64 b'] 32)) w') : SS w w' M N v L q r hd f k n b k' n' b' := by
  have f2 : Fresh w ((w.alloc (.cells #[.int .i64 k, .int .u64 n, .int .i64 b] 32)).alloc (.cells #[.int .i64 k', .int .u64 n', .int .i64 b'] 32)) := ((Fresh.refl w).alloc _ _).alloc _ _
  have f3 := f2.trans g
  obtain ⟨b1, b2, b3⟩ := blocksR_at L q _ hi
  refine ⟨by rw [set_same L q _ hi]; exact h.fresh f3, ((Own.new' w k n b).later ((Fresh.refl _).alloc _ _)).later g, ?_, f3.touch _, (h.ot _ _ b1).2.2, (h.ot _ _ b2).2.2, (h.ot _ _ b3).2.2⟩
  have := Own.new' (w.alloc (.cells #[.int .i64 k, .int .u64 n, .int .i64 b] 32)) k' n' b'
  have this : Own ((w.alloc (.cells #[.int .i64 k, .int .u64 n, .int .i64 b] 32)).alloc (.cells #[.int .i64 k', .int .u64 n', .int .i64 b'] 32)) (w.heap.size + 1) k' n' b' := by simpa using this
  exact this.later g
theorem SS.lq (h : SS w wr M N v L q r hd f k n b k' n' b') (hq : q < L.length) : (L.set q (some r, hd, f))[q]? = some (some r, hd, f) := List.getElem?_set_self hq
/-- The block's parts, for set. -/
theorem SS.blk (h : SS w wr M N v L q r hd f k n b k' n' b') (hq : q < L.length) : RBlk wr hd.K hd.B hd.P N r ∧ (∀ o, wr.frozen? ⟨hd.K, o, none⟩ = false) ∧ (∀ o, wr.frozen? ⟨hd.B, o, none⟩ = false) ∧ r.sz ≤ 16777216 := h.mem.live q r hd f (h.lq hq)
theorem SS.ne (h : SS w wr M N v L q r hd f k n b k' n' b') (hq : q < L.length) : hd.K ≠ hd.B ∧ hd.K ≠ hd.P ∧ hd.B ≠ hd.P := by
  obtain ⟨b1, b2, b3⟩ := blocksR_at _ q _ (h.lq hq)
  refine ⟨fun e => ?_, fun e => ?_, fun e => ?_⟩
  · have := h.mem.nd _ _ _ b1 (by rw [e]; exact b2); omega
  · have := h.mem.nd _ _ _ b1 (by rw [e]; exact b3); omega
  · have := h.mem.nd _ _ _ b2 (by rw [e]; exact b3); omega
theorem SS.set (h : SS w wr M N v L q r hd f k n b k' n' b') (hq : q < L.length) {X : World} (g : Fresh wr X) {r2 : RB} (hr : RBlk w' hd.K hd.B hd.P (N + 1) r2) (ht : Touch (fun x => x = hd.K ∨ x = hd.B ∨ x = hd.P) X w') (hs : r2.sz = r.sz) (hf : r2.fx = r.fx) : SS w w' M (N + 1) v L q r2 hd f k n b k' n' b' := by
  have hX := h.later g
  have na : ¬ (w.heap.size = hd.K ∨ w.heap.size = hd.B ∨ w.heap.size = hd.P) := fun e => by have := h.lt; omega
  have nz : ¬ (w.heap.size + 1 = hd.K ∨ w.heap.size + 1 = hd.B ∨ w.heap.size + 1 = hd.P) := fun e => by have := h.lt; omega
  have hm := hX.mem.inner (hX.lq hq) ht (Nat.le_succ N) hr hs hf
  rw [List.set_set] at hm
  exact ⟨hm, ⟨Nat.lt_of_lt_of_le hX.a.size ht.size, ht.cellOf na hX.a.c0, ht.cellOf na hX.a.c1, ht.cellOf na hX.a.c2⟩, ⟨Nat.lt_of_lt_of_le hX.z.size ht.size, ht.cellOf nz hX.z.c0, ht.cellOf nz hX.z.c1, ht.cellOf nz hX.z.c2⟩, hX.t.trans ht, h.lt⟩
/-- The row of blocks, and block q's head. -/
theorem SS.row {G cap len : Nat} (h : SS w wr M N (.slice (some ⟨G, 0, none⟩) len cap) L q r hd f k n b k' n' b') (hq : q < L.length) : wr.cell? ⟨M, 0, none⟩ = some (.slice (some ⟨G, 0, none⟩) len cap) ∧ wr.cell? ⟨G, q * 5, none⟩ = some (.slice (some ⟨hd.K, 0, none⟩) r.sz r.sz) ∧ wr.cell? ⟨G, q * 5 + 1, none⟩ = some (.slice (some ⟨hd.B, 0, none⟩) r.sz r.sz) ∧ wr.cell? ⟨G, q * 5 + 2, none⟩ = some (.map (some hd.P)) ∧ wr.cell? ⟨G, q * 5 + 3, none⟩ = some (.bool true) ∧ wr.cell? ⟨G, q * 5 + 4, none⟩ = some (.bool r.fx) := by
  obtain ⟨G', hrow, hv⟩ := h.mem.row
  obtain ⟨cap', e, -⟩ := hv (fun e => by have := congrArg List.length e; rw [List.length_set] at this; simp at this; rw [this] at hq; simp at hq)
  injection e with e _ _
  injection e with e
  injection e with e _ _
  subst e
  have hl := h.lq hq
  have l0 := hrow.at' q _ 0 _ hl rfl (by decide)
  rw [Nat.add_zero] at l0
  exact ⟨h.mem.c0, l0, hrow.at' q _ 1 _ hl rfl (by decide), hrow.at' q _ 2 _ hl rfl (by decide), hrow.at' q _ 3 _ hl rfl (by decide), hrow.at' q _ 4 _ hl rfl (by decide)⟩
/-- What is left at the end. -/
theorem SS.left {r0 : RB} {N' : Nat} (h : SS w wr M N v L q r hd f k n b k' n' b') (hi : L[q]? = some (some r0, hd, f)) (hN : N ≤ N') : LeftR M v L (setRB (plainR L) ((q : Int) + 1) (some r)) N' w wr := by
  obtain ⟨b1, b2, b3⟩ := blocksR_at L q _ hi
  refine ⟨v, _, h.mem.mono hN, ?_, h.t.mono fun x hx => Or.inr (Or.inr ?_), fun x hx => Or.inl (own_of_set (t' := (some r, hd, f)) hi rfl x hx)⟩
  · rw [plainR_set]; unfold setRB; rw [show ((q : Int) + 1 - 1).toNat = q by omega]
  · rcases hx with rfl | rfl | rfl
    · exact ⟨_, b1⟩
    · exact ⟨_, b2⟩
    · exact ⟨_, b3⟩
theorem rc_none : rcV .none = .agg #[.int .i64 0, .int .u8 0, .int .i64 0, .int .u64 0, .int .i64 0, .int .i64 0] := rfl
theorem rc_byte (x : Int) (h : 0 ≤ x) (hx : x < 256) : rcV (.byte x.toNat) = .agg #[.int .i64 1, .int .u8 x, .int .i64 0, .int .u64 0, .int .i64 0, .int .i64 0] := by
  unfold rcV
  show Value.agg #[.int .i64 ((1 : Nat) : Int), .int .u8 ((x.toNat : Nat) : Int), .int .i64 0, .int .u64 0, .int .i64 0, .int .i64 0] = _
  rw [Int.toNat_of_nonneg h]
  rfl
theorem rc_piece (x y z : Int) (i : Nat) : rcV (.piece (x, y, z) i) = .agg #[.int .i64 2, .int .u8 0, .int .i64 x, .int .u64 y, .int .i64 z, .int .i64 (i : Int)] := rfl
end Go.Proofs.Ytjbflmpnmobngaa
