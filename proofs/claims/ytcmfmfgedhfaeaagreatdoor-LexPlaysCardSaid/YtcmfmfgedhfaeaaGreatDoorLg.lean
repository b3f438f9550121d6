/- brokenAt, of texts whose runes are none of them broken: nothing stands there. -/
import Derived.Test.YtcmfmfgedhfaeaaGreatDoorLf
namespace Go.Proofs.YtcmfmfgedhfaeaaGreatDoor
set_option linter.unusedSimpArgs false
set_option linter.unusedVariables false
open Go.RowKit

/-- No rune of it is the one that stands for broken bytes. -/
def Plain (s : ByteArray) : Prop := ∀ pos, pos < s.size → (Utf8.decode s pos).1 ≠ 65533
theorem behZ_lo (l c r : Int) (k : Nat) (hl : 1 ≤ l ∧ l ≤ 1 + k) (hc : 1 ≤ c ∧ c ≤ 1 + k) : (1 ≤ (behZ l c r).1 ∧ (behZ l c r).1 ≤ 1 + (k + 1 : Nat)) ∧ 1 ≤ (behZ l c r).2 ∧ (behZ l c r).2 ≤ 1 + (k + 1 : Nat) := by
  unfold behZ
  split <;> (simp only; omega)
theorem Blk.other {w : World} {b d : Nat} {vs : List Value} (h : Blk w b vs) (hn : b ≠ d) (i : Nat) (x : Value) : Blk (w.setCell ⟨d, i, none⟩ x) b vs := by
  have e : (w.setCell ⟨d, i, none⟩ x).heap[b]? = w.heap[b]? := Below.heap_setCell _ _ _ _ (by simpa using hn)
  refine ⟨fun j v hv => ?_, fun o => ?_, by simpa [World.setCell] using h.2.2⟩
  · have := h.1 j v hv
    simp only [World.cell?, e] at this ⊢
    exact this
  · have := h.2.1 o
    simp only [World.frozen?, e] at this ⊢
    exact this
theorem Blk.other2 {w : World} {b d : Nat} {vs : List Value} (h : Blk w b vs) (hn : b ≠ d) (i j : Nat) (x y : Value) : Blk ((w.setCell ⟨d, i, none⟩ x).setCell ⟨d, j, none⟩ y) b vs := (h.other hn i x).other hn j y
theorem Blk.set2 {w : World} {b : Nat} {v0 v1 : Value} (h : Blk w b [v0, v1]) (x y : Value) : Blk ((w.setCell ⟨b, 0, none⟩ x).setCell ⟨b, 1, none⟩ y) b [x, y] := by
  have r0 := h.1 0 _ rfl
  have r1 := h.1 1 _ rfl
  refine ⟨fun i v hv => ?_, fun o => ?_, by simpa [World.setCell] using h.2.2⟩
  · match i, hv with
    | 0, hv => simp at hv; subst hv; simp [go_sem, r0, r1]
    | 1, hv => simp at hv; subst hv; simp [go_sem, r0, r1]
  · simp [go_sem, h.2.1]
set_option maxRecDepth 100000 in
set_option maxHeartbeats 4000000 in
theorem plain_any (s : ByteArray) (h : Plain s) (hs : s.size ≤ 1048576) (w : World) : Calls Tryz.prog 15 #[.string s] w fun e w' => e = .returned (.tuple #[.agg #[.int .i64 0, .int .i64 0], .bool false]) ∧ Fresh w w' := by
  have HP := Lib.hid h
  clear h
  go_enter Tryz.func15, Tryz.ntmps15
  go_wp2_with fail
  go_at_call 23; refine (first_any _).mono ?_; rintro e w1 ⟨rfl, f1⟩
  have F1 : Hid (Fresh w w1) := Lib.hid ((((Fresh.refl w).alloc _ _)).trans f1)
  have R1 : Hid (Blk w1 w.heap.size [.int .i64 0, .int .i64 0]) := Lib.hid ((Blk.new w #[.int .i64 0, .int .i64 0] 25).fresh f1)
  clear f1
  have HZ : Hid (w.heap.size < w1.heap.size) := Lib.hid R1.out.2.2
  go_upto_region 2 with fail
  have F2 : Hid (Fresh w (w1.alloc (.cells #[.int .i64 1, .int .i64 1] 25))) := Lib.hid (F1.out.alloc _ _)
  have R2 : Hid (Blk (w1.alloc (.cells #[.int .i64 1, .int .i64 1] 25)) w.heap.size [.int .i64 0, .int .i64 0]) := Lib.hid (R1.out.fresh ((Fresh.refl w1).alloc _ _))
  have A2 : Hid (Blk (w1.alloc (.cells #[.int .i64 1, .int .i64 1] 25)) w1.heap.size [.int .i64 1, .int .i64 1]) := Lib.hid (Blk.new w1 #[.int .i64 1, .int .i64 1] 25)
  have HI : Hid ((w1.alloc (.cells #[.int .i64 1, .int .i64 1] 25)).heap.size = w1.heap.size + 1) := Lib.hid (by simp)
  clear F1 R1
  generalize (w1.alloc (.cells #[.int .i64 1, .int .i64 1] 25)) = W2 at *
  generalize w1.heap.size = A at *
  have hk0 : Hid ((W2.iter s 0).heap[W2.heap.size]? = some (.stringIter s 0)) := Lib.hid (World.iter_heap W2 s 0)
  have F3 : Hid (Fresh W2 (W2.iter s 0)) := Lib.hid ((Fresh.refl _).obj _)
  have G3 : Hid (Fresh w (W2.iter s 0)) := Lib.hid (F2.out.trans F3.out)
  have A3 := Lib.hid (A2.out.fresh F3.out)
  have R3 := Lib.hid (R2.out.fresh F3.out)
  clear A2 R2 F2 F3
  go_wp2_with fail
  go_loopw [5, 6] (fun _ _ wr => ∃ (pos k : Nat) (l c : Int), k ≤ pos ∧ k ≤ s.size ∧ (1 ≤ l ∧ l ≤ 1 + k) ∧ (1 ≤ c ∧ c ≤ 1 + k) ∧ Hid (wr.heap[W2.heap.size]? = some (.stringIter s pos)) ∧ Hid (Blk wr A [.int .i64 l, .int .i64 c]) ∧ Hid (Blk wr w.heap.size [.int .i64 0, .int .i64 0]) ∧ Hid (Fresh w wr)) (fun _ _ wr => s.size - wr.iterPos W2.heap.size)
  case atStart => exact ⟨0, 0, 1, 1, by omega, by omega, by omega, by omega, hk0, A3, R3, G3⟩
  case round =>
    obtain ⟨pos, k, l, c, hkp, hps, hl, hc, HK, HA, HR, HG⟩ := hrel
    clear hk0 A3 R3 G3
    have HMU : Hid (wr.iterPos W2.heap.size = pos) := Lib.hid (by simp [World.iterPos, HK.out])
    by_cases hp : pos < s.size
    · have hnext : ∀ ty, (Instr.next (.pointer (some ⟨W2.heap.size, 0, none⟩)) true ty).run Tryz.prog wr = _ := fun ty => Lib.run_next_any_at wr W2.heap.size s pos ty HK.out hp
      have HK1 := Lib.hid (Lib.iterAt_heap wr W2.heap.size s pos (pos + (Utf8.decode s pos).2) HK.out)
      have hks : W2.heap.size < wr.heap.size := (Array.getElem?_eq_some_iff.1 HK.out).1
      have kept : ∀ (b : Nat) (vs : List Value), b ≠ W2.heap.size → Blk wr b vs → Blk (wr.iterAt W2.heap.size s (pos + (Utf8.decode s pos).2)) b vs := fun b vs hb h => by
        have e := Lib.iterAt_other wr W2.heap.size b s (pos + (Utf8.decode s pos).2) hb
        refine ⟨fun i v hv => ?_, fun o => ?_, by rw [Lib.iterAt_size]; exact h.2.2⟩
        · have := h.1 i v hv
          simp only [World.cell?, e] at this ⊢
          exact this
        · have := h.2.1 o
          simp only [World.frozen?, e] at this ⊢
          exact this
      have HA1 := Lib.hid (kept A _ (by have := HI.out; omega) HA.out)
      have HR1 := Lib.hid (kept w.heap.size _ (by have := HI.out; have := HZ.out; omega) HR.out)
      have HG1 : Hid (Fresh w (wr.iterAt W2.heap.size s (pos + (Utf8.decode s pos).2))) := Lib.hid ⟨Lib.below_iterAt HG.out.below (by have := HI.out; have := HZ.out; omega) s _⟩
      have HWP := Lib.hid (Lib.decode_width_pos s pos hp)
      have HRU := Lib.hid (HP.out pos hp)
      clear kept hks HK HA HR HG
      generalize wr.iterAt W2.heap.size s (pos + (Utf8.decode s pos).2) = W1 at *
      generalize (Utf8.decode s pos).2 = wd at *
      have hru : ((Utf8.decode s pos).1 : Int) ≠ 65533 := by have := HRU.out; omega
      generalize ((Utf8.decode s pos).1 : Int) = r at *
      have brr : (r == 65533) = false := by simpa using hru
      clear hru
      have r0 := HA1.out.1 0 _ rfl
      have r1 := HA1.out.1 1 _ rfl
      go_wp2_with fail
      clear r0 r1
      go_at_call 25; refine (behind_any l c r (by omega) (by omega) _).mono ?_; rintro e w4 ⟨rfl, f4⟩
      have HA4 := Lib.hid (HA1.out.fresh f4)
      have HR4 := Lib.hid (HR1.out.fresh f4)
      have HG4 := Lib.hid (HG1.out.trans f4)
      have HK4 : Hid (w4.heap[W2.heap.size]? = some (.stringIter s (pos + wd))) := Lib.hid ((f4.below.block _ (Array.getElem?_eq_some_iff.1 HK1.out).1).trans HK1.out)
      have HB := Lib.hid (behZ_lo l c r k hl hc)
      have NA : Hid (A ≠ W2.heap.size ∧ w.heap.size ≠ A ∧ w.heap.size ≤ A) := Lib.hid (by have := HI.out; have := HZ.out; omega)
      clear f4 HA1 HR1 HG1 HK1 hnext HRU brr
      generalize (behZ l c r).1 = l' at *
      generalize (behZ l c r).2 = c' at *
      have r0 := HA4.out.1 0 _ rfl
      have r1 := HA4.out.1 1 _ rfl
      have rf := HA4.out.2.1
      go_wp2_with fail
      have HK5 : Hid (((w4.setCell ⟨A, 0, none⟩ (.int .i64 l')).setCell ⟨A, 1, none⟩ (.int .i64 c')).heap[W2.heap.size]? = some (.stringIter s (pos + wd))) := Lib.hid (by
        rw [Below.heap_setCell _ _ _ _ (by simpa using Ne.symm NA.out.1), Below.heap_setCell _ _ _ _ (by simpa using Ne.symm NA.out.1)]
        exact HK4.out)
      have HG5 : Hid (Fresh w ((w4.setCell ⟨A, 0, none⟩ (.int .i64 l')).setCell ⟨A, 1, none⟩ (.int .i64 c'))) := Lib.hid ((HG4.out.setCell NA.out.2.2 _).setCell NA.out.2.2 _)
      have HA5 : Hid (Blk ((w4.setCell ⟨A, 0, none⟩ (.int .i64 l')).setCell ⟨A, 1, none⟩ (.int .i64 c')) A [.int .i64 l', .int .i64 c']) := Lib.hid (HA4.out.set2 _ _)
      have HR5 : Hid (Blk ((w4.setCell ⟨A, 0, none⟩ (.int .i64 l')).setCell ⟨A, 1, none⟩ (.int .i64 c')) w.heap.size [.int .i64 0, .int .i64 0]) := Lib.hid (HR4.out.other2 NA.out.2.1 _ _ _ _)
      clear r0 r1 rf HK4 HG4 HA4 HR4
      generalize ((w4.setCell ⟨A, 0, none⟩ (.int .i64 l')).setCell ⟨A, 1, none⟩ (.int .i64 c')) = W5 at *
      go_roundw
      case rel => exact ⟨pos + wd, k + 1, l', c', by have := HWP.out; omega, by omega, HB.out.1, HB.out.2, HK5, HA5, HR5, HG5⟩
      case measure =>
        have h1 : W5.iterPos W2.heap.size = pos + wd := by simp [World.iterPos, HK5.out]
        have := HWP.out
        have := HMU.out
        omega
    · have hnext : ∀ ty, (Instr.next (.pointer (some ⟨W2.heap.size, 0, none⟩)) true ty).run Tryz.prog wr = _ := fun ty => Lib.run_next_end_at wr W2.heap.size s pos ty HK.out hp
      have r0 := HR.out.1 0 _ rfl
      have r1 := HR.out.1 1 _ rfl
      have rf := HR.out.2.1
      go_wp2_with fail
      refine bodyPost_ret (v := ?_) ?_ rfl ?_; rotate_left 1; focus (simp [results, Tryz.results15, go_sem, *]; (try rfl); done)
      exact ⟨rfl, (HG.out.setCell (Nat.le_refl _) _).setCell (Nat.le_refl _) _⟩
end Go.Proofs.YtcmfmfgedhfaeaaGreatDoor
