/- What stands in quotes: up to the closing one. -/
import Derived.Test.YtcmfmfgedhfaeaaGreatDoorLp
namespace Go.Proofs.YtcmfmfgedhfaeaaGreatDoor
set_option linter.unusedSimpArgs false
set_option linter.unusedVariables false
open Go.RowKit

/-- All that was there is as it was, but for block b. -/
structure Kq (b : Nat) (w w' : World) : Prop where
  os : w'.os = w.os
  tape : w'.tape = w.tape
  output : w'.output = w.output
  size : w.heap.size ≤ w'.heap.size
  block : ∀ k, k < w.heap.size → k ≠ b → w'.heap[k]? = w.heap[k]?
theorem Kq.refl (b : Nat) (w : World) : Kq b w w := ⟨rfl, rfl, rfl, Nat.le_refl _, fun _ _ _ => rfl⟩
theorem Kq.trans {b : Nat} {w w1 w2 : World} (h : Kq b w w1) (k : Kq b w1 w2) : Kq b w w2 :=
  ⟨k.os.trans h.os, k.tape.trans h.tape, k.output.trans h.output, Nat.le_trans h.size k.size, fun i hi hb => (k.block i (Nat.lt_of_lt_of_le hi h.size) hb).trans (h.block i hi hb)⟩
theorem Kq.of (b : Nat) {w w' : World} (h : Fresh w w') : Kq b w w' := ⟨h.below.os, h.below.tape, h.below.output, h.below.size, fun k hk _ => h.below.block k hk⟩
theorem Kq.set (b : Nat) (w : World) (o : Nat) (v : Value) : Kq b w (w.setCell ⟨b, o, none⟩ v) :=
  ⟨rfl, rfl, rfl, by simp [World.setCell], fun k _ hk => Below.heap_setCell _ _ _ _ hk⟩
theorem Kq.fresh {b : Nat} {a w w' : World} (h : Kq b w w') (f : Fresh a w) (hb : a.heap.size ≤ b) : Fresh a w' :=
  ⟨⟨h.os.trans f.below.os, h.tape.trans f.below.tape, h.output.trans f.below.output, Nat.le_trans f.size h.size, fun k hk => (h.block k (Nat.lt_of_lt_of_le hk f.size) (by omega)).trans (f.below.block k hk)⟩⟩
theorem Kq.cell {b : Nat} {w w' : World} (h : Kq b w w') {B i : Nat} {v : Value} (hb : B ≠ b) (hv : w.cell? ⟨B, i, none⟩ = some v) : w'.cell? ⟨B, i, none⟩ = some v := by
  rw [World.cell?_of_block (w := w) (w' := w') (h.block B (cell_lt hv) hb), hv]
theorem clo_nl (r q : Int) (e : Bool) (a b : Nat) (w : World) (ha : w.cell? ⟨a, 0, none⟩ = some (.int .i32 q)) (hb : w.cell? ⟨b, 0, none⟩ = some (.bool e)) (hf : w.frozen? ⟨b, 0, none⟩ = false) (h1 : (r == 10) = true) :
    Calls Tryz.prog 70 #[.int .i32 r, .pointer (some ⟨a, 0, none⟩), .pointer (some ⟨b, 0, none⟩)] w fun x w' => x = .returned (.bool false) ∧ w' = w := by
  go_enter Tryz.func70, Tryz.ntmps70
  go_wp2_with fail
  go_ret
  exact ⟨rfl, rfl⟩
theorem clo_q (r : Int) (a b : Nat) (w : World) (ha : w.cell? ⟨a, 0, none⟩ = some (.int .i32 r)) (hb : w.cell? ⟨b, 0, none⟩ = some (.bool false)) (hf : w.frozen? ⟨b, 0, none⟩ = false) (h1 : (r == 10) = false) :
    Calls Tryz.prog 70 #[.int .i32 r, .pointer (some ⟨a, 0, none⟩), .pointer (some ⟨b, 0, none⟩)] w fun x w' => x = .returned (.bool false) ∧ w' = w := by
  go_enter Tryz.func70, Tryz.ntmps70
  go_wp2_with fail
  go_ret
  exact ⟨rfl, rfl⟩
theorem clo_1 (r q : Int) (e : Bool) (a b : Nat) (w : World) (ha : w.cell? ⟨a, 0, none⟩ = some (.int .i32 q)) (hb : w.cell? ⟨b, 0, none⟩ = some (.bool e)) (hf : w.frozen? ⟨b, 0, none⟩ = false) (h1 : (r == 10) = false) (h2 : (r == q) = false) (h3 : (r == 92) = false) :
    Calls Tryz.prog 70 #[.int .i32 r, .pointer (some ⟨a, 0, none⟩), .pointer (some ⟨b, 0, none⟩)] w fun x w' => x = .returned (.bool true) ∧ w' = w.setCell ⟨b, 0, none⟩ (.bool false) := by
  go_enter Tryz.func70, Tryz.ntmps70
  go_wp2_with fail
  go_ret
  exact ⟨rfl, rfl⟩
theorem clo_2 (r q : Int) (e : Bool) (a b : Nat) (w : World) (ha : w.cell? ⟨a, 0, none⟩ = some (.int .i32 q)) (hb : w.cell? ⟨b, 0, none⟩ = some (.bool e)) (hf : w.frozen? ⟨b, 0, none⟩ = false) (h1 : (r == 10) = false) (h2 : (r == q) = false) (h3 : (r == 92) = true) :
    Calls Tryz.prog 70 #[.int .i32 r, .pointer (some ⟨a, 0, none⟩), .pointer (some ⟨b, 0, none⟩)] w fun x w' => x = .returned (.bool true) ∧ w' = w.setCell ⟨b, 0, none⟩ (.bool (!e)) := by
  go_enter Tryz.func70, Tryz.ntmps70
  go_wp2_with fail
  go_ret
  exact ⟨rfl, rfl⟩
theorem clo_3 (r q : Int) (e : Bool) (a b : Nat) (w : World) (ha : w.cell? ⟨a, 0, none⟩ = some (.int .i32 q)) (hb : w.cell? ⟨b, 0, none⟩ = some (.bool e)) (hf : w.frozen? ⟨b, 0, none⟩ = false) (h1 : (r == 10) = false) (h0 : e = true) (h2 : (r == q) = true) (h3 : (r == 92) = false) :
    Calls Tryz.prog 70 #[.int .i32 r, .pointer (some ⟨a, 0, none⟩), .pointer (some ⟨b, 0, none⟩)] w fun x w' => x = .returned (.bool true) ∧ w' = w.setCell ⟨b, 0, none⟩ (.bool false) := by
  subst h0
  go_enter Tryz.func70, Tryz.ntmps70
  go_wp2_with fail
  go_ret
  exact ⟨rfl, rfl⟩
theorem clo_4 (r q : Int) (e : Bool) (a b : Nat) (w : World) (ha : w.cell? ⟨a, 0, none⟩ = some (.int .i32 q)) (hb : w.cell? ⟨b, 0, none⟩ = some (.bool e)) (hf : w.frozen? ⟨b, 0, none⟩ = false) (h1 : (r == 10) = false) (h0 : e = true) (h2 : (r == q) = true) (h3 : (r == 92) = true) :
    Calls Tryz.prog 70 #[.int .i32 r, .pointer (some ⟨a, 0, none⟩), .pointer (some ⟨b, 0, none⟩)] w fun x w' => x = .returned (.bool true) ∧ w' = w.setCell ⟨b, 0, none⟩ (.bool false) := by
  subst h0
  go_enter Tryz.func70, Tryz.ntmps70
  go_wp2_with fail
  go_ret
  exact ⟨rfl, rfl⟩
/-- What the closure says, and what stands in the box behind it. -/
theorem clo_any (r q : Int) (e : Bool) (a b : Nat) (w : World) (ha : w.cell? ⟨a, 0, none⟩ = some (.int .i32 q)) (hb : w.cell? ⟨b, 0, none⟩ = some (.bool e)) (hf : w.frozen? ⟨b, 0, none⟩ = false) :
    Calls Tryz.prog 70 #[.int .i32 r, .pointer (some ⟨a, 0, none⟩), .pointer (some ⟨b, 0, none⟩)] w fun x w' => x = .returned (.bool (!(r == 10 || (r == q && !e)))) ∧ w' = (if (r == 10 || (r == q && !e)) = true then w else w.setCell ⟨b, 0, none⟩ (.bool (r == 92 && !e))) := by
  cases h1 : (r == 10)
  · cases h2 : (r == q)
    · cases h3 : (r == 92)
      · simpa using clo_1 r q e a b w ha hb hf h1 h2 h3
      · simpa using clo_2 r q e a b w ha hb hf h1 h2 h3
    · cases e
      · have : r = q := by simpa using h2
        subst this
        simpa using clo_q r a b w ha hb hf h1
      · cases h3 : (r == 92)
        · simpa using clo_3 r q true a b w ha hb hf h1 rfl h2 h3
        · simpa using clo_4 r q true a b w ha hb hf h1 rfl h2 h3
  · simpa using clo_nl r q e a b w ha hb hf h1
theorem quoF_end (q : Int) (s : ByteArray) (f pos : Nat) (e : Bool) (h : ¬ pos < s.size) : quoF q s f pos e = s.size := by
  cases f <;> simp [quoF, h]
set_option maxRecDepth 100000 in
set_option maxHeartbeats 4000000 in
theorem spanQ_any (s : ByteArray) (q : Int) (a b : Nat) (w : World) (hab : a ≠ b) (ha : w.cell? ⟨a, 0, none⟩ = some (.int .i32 q)) (hb : Blk w b [.bool false]) :
    Calls Tryz.prog 53 #[.string s, .func (.func 70) #[] #[.pointer (some ⟨a, 0, none⟩), .pointer (some ⟨b, 0, none⟩)]] w fun e w' => e = .returned (.int .i64 (quoF q s s.size 0 false)) ∧ Kq b w w' := by
  obtain ⟨R, hR⟩ : ∃ R, R = quoF q s s.size 0 false := ⟨_, rfl⟩
  have HR := Lib.hid hR
  rw [← hR]
  clear hR
  have haz := cell_lt ha
  have HZ : Hid (a < w.heap.size ∧ b < w.heap.size ∧ a ≠ b) := Lib.hid ⟨haz, hb.2.2, hab⟩
  have hk0 : Hid ((w.iter s 0).heap[w.heap.size]? = some (.stringIter s 0)) := Lib.hid (World.iter_heap w s 0)
  have hf1 : Fresh w (w.iter s 0) := (Fresh.refl w).obj _
  have hf0 : Hid (Kq b w (w.iter s 0)) := Lib.hid (Kq.of b hf1)
  have ha0 : Hid ((w.iter s 0).cell? ⟨a, 0, none⟩ = some (.int .i32 q)) := Lib.hid (hf1.at' ha)
  have hb0 : Hid (Blk (w.iter s 0) b [.bool false]) := Lib.hid (hb.fresh hf1)
  clear ha hb hab haz hf1
  go_enter Tryz.func53, Tryz.ntmps53
  go_wp2_with fail
  go_loopw [5, 6] (fun _ _ wr => ∃ (pos f : Nat) (e : Bool), s.size ≤ pos + f ∧ Hid (quoF q s f pos e = R) ∧ Hid (wr.heap[w.heap.size]? = some (.stringIter s pos)) ∧ Hid (wr.cell? ⟨a, 0, none⟩ = some (.int .i32 q)) ∧ Hid (Blk wr b [.bool e]) ∧ Hid (Kq b w wr)) (fun _ _ wr => s.size - wr.iterPos w.heap.size)
  case atStart => exact ⟨0, s.size, false, by omega, Lib.hid HR.out.symm, hk0, ha0, hb0, hf0⟩
  case round =>
    obtain ⟨pos, f, e, hpf, HS, HK, HA, HB, HF⟩ := hrel
    clear hk0 hf0 ha0 hb0
    have HMU : Hid (wr.iterPos w.heap.size = pos) := Lib.hid (by simp [World.iterPos, HK.out])
    by_cases hp : pos < s.size
    · have hnext : ∀ ty, (Instr.next (.pointer (some ⟨w.heap.size, 0, none⟩)) true ty).run Tryz.prog wr = _ := fun ty => Lib.run_next_any_at wr w.heap.size s pos ty HK.out hp
      have HK1 := Lib.hid (Lib.iterAt_heap wr w.heap.size s pos (pos + (Utf8.decode s pos).2) HK.out)
      have hks : w.heap.size < wr.heap.size := (Array.getElem?_eq_some_iff.1 HK.out).1
      have kept : ∀ (d : Nat) (vs : List Value), d ≠ w.heap.size → Blk wr d vs → Blk (wr.iterAt w.heap.size s (pos + (Utf8.decode s pos).2)) d vs := fun d vs hd h => by
        have e := Lib.iterAt_other wr w.heap.size d s (pos + (Utf8.decode s pos).2) hd
        refine ⟨fun i v hv => ?_, fun o => ?_, by rw [Lib.iterAt_size]; exact h.2.2⟩
        · have := h.1 i v hv
          simp only [World.cell?, e] at this ⊢
          exact this
        · have := h.2.1 o
          simp only [World.frozen?, e] at this ⊢
          exact this
      have HB1 := Lib.hid (kept b _ (by have := HZ.out; omega) HB.out)
      have HA1 : Hid ((wr.iterAt w.heap.size s (pos + (Utf8.decode s pos).2)).cell? ⟨a, 0, none⟩ = some (.int .i32 q)) := Lib.hid (by
        have e := Lib.iterAt_other wr w.heap.size a s (pos + (Utf8.decode s pos).2) (by have := HZ.out; omega)
        have := HA.out
        simp only [World.cell?, e] at this ⊢
        exact this)
      have HF1 : Hid (Kq b w (wr.iterAt w.heap.size s (pos + (Utf8.decode s pos).2))) := Lib.hid (by
        have h := Lib.below_iterAt (Below.refl w.heap.size wr) (Nat.le_refl _) s (pos + (Utf8.decode s pos).2)
        exact ⟨h.os.trans HF.out.os, h.tape.trans HF.out.tape, h.output.trans HF.out.output, Nat.le_trans HF.out.size h.size, fun k hk hkb => (h.block k hk).trans (HF.out.block k hk hkb)⟩)
      have HWP := Lib.hid (Lib.decode_width_pos s pos hp)
      obtain ⟨f, rfl⟩ : ∃ g, f = g + 1 := ⟨f - 1, by omega⟩
      have HS1 : Hid ((if (((Utf8.decode s pos).1 : Int) == 10 || (((Utf8.decode s pos).1 : Int) == q && !e)) = true then pos else quoF q s f (pos + (Utf8.decode s pos).2) (((Utf8.decode s pos).1 : Int) == 92 && !e)) = R) := Lib.hid (by have := HS.out; simpa only [quoF, hp, if_true] using this)
      clear kept hks HK HA HB HF HS
      generalize wr.iterAt w.heap.size s (pos + (Utf8.decode s pos).2) = W1 at *
      generalize (Utf8.decode s pos).2 = wd at *
      generalize ((Utf8.decode s pos).1 : Int) = r at *
      have D := Lib.hid (clo_any r q e a b W1 HA1.out (HB1.out.1 0 _ rfl) (HB1.out.2.1 0))
      generalize (r == 92 && !e) = e2 at *
      generalize (r == 10 || (r == q && !e)) = t at *
      cases t
      · have HE : Hid (quoF q s f (pos + wd) e2 = R) := Lib.hid (by simpa using HS1.out)
        clear HS1
        go_wp2_with fail
        go_at_call 70; refine D.out.mono ?_; rintro x w1 ⟨rfl, hw⟩
        simp only [Bool.false_eq_true, if_false, if_true, eq_self_iff_true] at hw
        subst hw
        have HK2 : Hid ((W1.setCell ⟨b, 0, none⟩ (.bool e2)).heap[w.heap.size]? = some (.stringIter s (pos + wd))) := Lib.hid ((Below.heap_setCell _ _ _ _ (by have := HZ.out; simp; omega)).trans HK1.out)
        have HF2 := Lib.hid (HF1.out.trans (Kq.set b W1 0 (.bool e2)))
        have HA2 : Hid ((W1.setCell ⟨b, 0, none⟩ (.bool e2)).cell? ⟨a, 0, none⟩ = some (.int .i32 q)) := Lib.hid ((Kq.set b W1 0 (.bool e2)).cell HZ.out.2.2 HA1.out)
        have HB2 : Hid (Blk (W1.setCell ⟨b, 0, none⟩ (.bool e2)) b [.bool e2]) := Lib.hid (by
          have r0 := HB1.out.1 0 _ rfl
          refine ⟨fun i v hv => ?_, fun o => ?_, by simpa [World.setCell] using HB1.out.2.2⟩
          · match i, hv with
            | 0, hv => simp at hv; subst hv; simp [go_sem, r0]
          · simp [go_sem, HB1.out.2.1])
        clear D HK1 HF1 HA1 HB1
        generalize (W1.setCell ⟨b, 0, none⟩ (.bool e2)) = W2 at *
        simp only [Bool.not_false]
        go_wp2_with fail
        go_roundw
        case rel => exact ⟨pos + wd, f, e2, by have := HWP.out; omega, HE, HK2, HA2, HB2, HF2⟩
        case measure =>
          have h1 : W2.iterPos w.heap.size = pos + wd := by simp [World.iterPos, HK2.out]
          have := HWP.out
          have := HMU.out
          omega
      · have HE : Hid (pos = R) := Lib.hid (by simpa using HS1.out)
        clear HS1
        go_wp2_with fail
        go_at_call 70; refine D.out.mono ?_; rintro x w1 ⟨rfl, hw⟩
        simp only [Bool.false_eq_true, if_false, if_true, eq_self_iff_true] at hw
        subst hw
        simp only [Bool.not_true]
        go_wp2_with fail
        go_returns
        exact ⟨by first | rfl | (rw [HE.out]; rfl), HF1.out⟩
    · have hnext : ∀ ty, (Instr.next (.pointer (some ⟨w.heap.size, 0, none⟩)) true ty).run Tryz.prog wr = _ := fun ty => Lib.run_next_end_at wr w.heap.size s pos ty HK.out hp
      have HE : Hid (s.size = R) := Lib.hid (by rw [← HS.out, quoF_end _ _ _ _ _ hp])
      go_wp2_with fail
      go_returns
      exact ⟨by first | rfl | (rw [← HE.out]; rfl), HF.out⟩
end Go.Proofs.YtcmfmfgedhfaeaaGreatDoor
