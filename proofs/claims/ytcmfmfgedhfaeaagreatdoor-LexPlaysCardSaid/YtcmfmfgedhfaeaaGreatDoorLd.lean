/- Names: which runes go on; span: how many bytes the runes at a text's beginning have that go on. -/
import Derived.Test.YtcmfmfgedhfaeaaGreatDoorLb
import Derived.Lib.OthersKept
import Derived.Lib.RuneCount
namespace Go.Proofs.YtcmfmfgedhfaeaaGreatDoor
set_option linter.unusedSimpArgs false
set_option linter.unusedVariables false
open Go.RowKit

def nameZ (r : Int) : Bool := letterZ r || digitZ r
def numZ (r : Int) : Bool := nameZ r || r == 46
theorem isOfName_any (r : Int) (w : World) : Calls Tryz.prog 54 #[.int .i32 r] w fun e w' => e = .returned (.bool (nameZ r)) ∧ Fresh w w' := by
  have C7 : ∀ X, Calls Tryz.prog 37 #[.int .i32 r] X fun e w' => e = .returned (.bool (letterZ r)) ∧ Fresh X w' := isLetter_any r
  have C9 : ∀ X, Calls Tryz.prog 39 #[.int .i32 r] X fun e w' => e = .returned (.bool (digitZ r)) ∧ Fresh X w' := isDigit_any r
  unfold nameZ
  generalize letterZ r = t at *
  generalize digitZ r = u at *
  have D7 := Lib.hid C7
  have D9 := Lib.hid C9
  clear C7 C9
  cases t
  · go_enter Tryz.func54, Tryz.ntmps54
    go_wp2_with fail
    go_at_call 37; refine (D7.out _).mono ?_; rintro e w1 ⟨rfl, f1⟩
    go_wp2_with fail
    go_at_call 39; refine (D9.out _).mono ?_; rintro e w2 ⟨rfl, f2⟩
    go_wp2_with fail
    go_returns
    exact ⟨by simp, f1.trans f2⟩
  · go_enter Tryz.func54, Tryz.ntmps54
    go_wp2_with fail
    go_at_call 37; refine (D7.out _).mono ?_; rintro e w1 ⟨rfl, f1⟩
    go_wp2_with fail
    go_returns
    exact ⟨by simp, f1⟩
theorem isOfNum_any (r : Int) (w : World) : Calls Tryz.prog 55 #[.int .i32 r] w fun e w' => e = .returned (.bool (numZ r)) ∧ Fresh w w' := by
  have C7 : ∀ X, Calls Tryz.prog 54 #[.int .i32 r] X fun e w' => e = .returned (.bool (nameZ r)) ∧ Fresh X w' := isOfName_any r
  unfold numZ
  generalize nameZ r = t at *
  have D7 := Lib.hid C7
  clear C7
  cases t
  · by_cases h : r = 46
    · subst h
      go_enter Tryz.func55, Tryz.ntmps55
      go_wp2_with fail
      go_at_call 54; refine (D7.out _).mono ?_; rintro e w1 ⟨rfl, f1⟩
      go_wp2_with fail
      go_returns
      exact ⟨by simp, f1⟩
    · have b1 : (r == 46) = false := by simpa using h
      rw [b1]
      go_enter Tryz.func55, Tryz.ntmps55
      go_wp2_with fail
      go_at_call 54; refine (D7.out _).mono ?_; rintro e w1 ⟨rfl, f1⟩
      go_wp2_with fail
      go_returns
      exact ⟨by simp, f1⟩
  · go_enter Tryz.func55, Tryz.ntmps55
    go_wp2_with fail
    go_at_call 54; refine (D7.out _).mono ?_; rintro e w1 ⟨rfl, f1⟩
    go_wp2_with fail
    go_returns
    exact ⟨by simp, f1⟩
/-- From a place on. -/
def spanF (p : Int → Bool) (s : ByteArray) : Nat → Nat → Nat
  | 0, _ => s.size
  | f + 1, pos => if pos < s.size then (if p (Utf8.decode s pos).1 then spanF p s f (pos + (Utf8.decode s pos).2) else pos) else s.size
theorem spanF_end (p : Int → Bool) (s : ByteArray) (f pos : Nat) (h : ¬ pos < s.size) : spanF p s f pos = s.size := by
  cases f <;> simp [spanF, h]
set_option maxRecDepth 100000 in
set_option maxHeartbeats 4000000 in
theorem span54_any (s : ByteArray) (w : World) : Calls Tryz.prog 53 #[.string s, .func (.func 54) #[] #[]] w fun e w' => e = .returned (.int .i64 (spanF nameZ s s.size 0)) ∧ Fresh w w' := by
  obtain ⟨R, hR⟩ : ∃ R, R = spanF nameZ s s.size 0 := ⟨_, rfl⟩
  have HR := Lib.hid hR
  rw [← hR]
  clear hR
  have hk0 : Hid ((w.iter s 0).heap[w.heap.size]? = some (.stringIter s 0)) := Lib.hid (World.iter_heap w s 0)
  have hf0 : Hid (Fresh w (w.iter s 0)) := Lib.hid ((Fresh.refl w).obj _)
  go_enter Tryz.func53, Tryz.ntmps53
  go_wp2_with fail
  go_loopw [5, 6] (fun _ _ wr => ∃ pos f : Nat, s.size ≤ pos + f ∧ Hid (spanF nameZ s f pos = R) ∧ Hid (wr.heap[w.heap.size]? = some (.stringIter s pos)) ∧ Hid (Fresh w wr)) (fun _ _ wr => s.size - wr.iterPos w.heap.size)
  case atStart => exact ⟨0, s.size, by omega, Lib.hid HR.out.symm, hk0, hf0⟩
  case round =>
    obtain ⟨pos, f, hpf, HS, HK, HF⟩ := hrel
    clear hk0 hf0
    have hmu : wr.iterPos w.heap.size = pos := by simp [World.iterPos, HK.out]
    have HMU := Lib.hid hmu
    clear hmu
    by_cases hp : pos < s.size
    · have hnext : ∀ ty, (Instr.next (.pointer (some ⟨w.heap.size, 0, none⟩)) true ty).run Tryz.prog wr = _ := fun ty => Lib.run_next_any_at wr w.heap.size s pos ty HK.out hp
      have HK1 := Lib.hid (Lib.iterAt_heap wr w.heap.size s pos (pos + (Utf8.decode s pos).2) HK.out)
      have HF1 : Hid (Fresh w (wr.iterAt w.heap.size s (pos + (Utf8.decode s pos).2))) := Lib.hid ⟨Lib.below_iterAt HF.out.below (Nat.le_refl _) s _⟩
      have HWP := Lib.hid (Lib.decode_width_pos s pos hp)
      obtain ⟨f, rfl⟩ : ∃ g, f = g + 1 := ⟨f - 1, by omega⟩
      have HS1 : Hid ((if nameZ (Utf8.decode s pos).1 then spanF nameZ s f (pos + (Utf8.decode s pos).2) else pos) = R) := Lib.hid (by have := HS.out; simpa [spanF, hp] using this)
      generalize wr.iterAt w.heap.size s (pos + (Utf8.decode s pos).2) = W1 at *
      generalize (Utf8.decode s pos).2 = wd at *
      have D := Lib.hid (fun X => isOfName_any ((Utf8.decode s pos).1 : Int) X)
      generalize ((Utf8.decode s pos).1 : Int) = r at *
      obtain ⟨t, ht⟩ : ∃ t, t = nameZ r := ⟨_, rfl⟩
      rw [← ht] at D HS1
      clear ht
      cases t
      · have HE : Hid (pos = R) := Lib.hid (by simpa using HS1.out)
        go_wp2_with fail
        go_at_call 54; refine (D.out _).mono ?_; rintro e w1 ⟨rfl, f1⟩
        go_wp2_with fail
        go_returns
        exact ⟨by first | rfl | (rw [HE.out]; rfl), HF1.out.trans f1⟩
      · have HE : Hid (spanF nameZ s f (pos + wd) = R) := Lib.hid (by simpa using HS1.out)
        go_wp2_with fail
        go_at_call 54; refine (D.out _).mono ?_; rintro e w1 ⟨rfl, f1⟩
        have HK2 : Hid (w1.heap[w.heap.size]? = some (.stringIter s (pos + wd))) := Lib.hid ((f1.below.block _ (Array.getElem?_eq_some_iff.1 HK1.out).1).trans HK1.out)
        have HF2 := Lib.hid (HF1.out.trans f1)
        clear f1
        go_wp2_with fail
        go_roundw
        case rel => exact ⟨pos + wd, f, by have := HWP.out; omega, HE, HK2, HF2⟩
        case measure =>
          have h1 : w1.iterPos w.heap.size = pos + wd := by simp [World.iterPos, HK2.out]
          have := HWP.out
          have := HMU.out
          omega
    · have hnext : ∀ ty, (Instr.next (.pointer (some ⟨w.heap.size, 0, none⟩)) true ty).run Tryz.prog wr = _ := fun ty => Lib.run_next_end_at wr w.heap.size s pos ty HK.out hp
      have HE : Hid (s.size = R) := Lib.hid (by rw [← HS.out, spanF_end _ _ _ _ hp])
      go_wp2_with fail
      go_returns
      exact ⟨by first | rfl | (rw [← HE.out]; rfl), HF.out⟩
set_option maxRecDepth 100000 in
set_option maxHeartbeats 4000000 in
theorem span55_any (s : ByteArray) (w : World) : Calls Tryz.prog 53 #[.string s, .func (.func 55) #[] #[]] w fun e w' => e = .returned (.int .i64 (spanF numZ s s.size 0)) ∧ Fresh w w' := by
  obtain ⟨R, hR⟩ : ∃ R, R = spanF numZ s s.size 0 := ⟨_, rfl⟩
  have HR := Lib.hid hR
  rw [← hR]
  clear hR
  have hk0 : Hid ((w.iter s 0).heap[w.heap.size]? = some (.stringIter s 0)) := Lib.hid (World.iter_heap w s 0)
  have hf0 : Hid (Fresh w (w.iter s 0)) := Lib.hid ((Fresh.refl w).obj _)
  go_enter Tryz.func53, Tryz.ntmps53
  go_wp2_with fail
  go_loopw [5, 6] (fun _ _ wr => ∃ pos f : Nat, s.size ≤ pos + f ∧ Hid (spanF numZ s f pos = R) ∧ Hid (wr.heap[w.heap.size]? = some (.stringIter s pos)) ∧ Hid (Fresh w wr)) (fun _ _ wr => s.size - wr.iterPos w.heap.size)
  case atStart => exact ⟨0, s.size, by omega, Lib.hid HR.out.symm, hk0, hf0⟩
  case round =>
    obtain ⟨pos, f, hpf, HS, HK, HF⟩ := hrel
    clear hk0 hf0
    have hmu : wr.iterPos w.heap.size = pos := by simp [World.iterPos, HK.out]
    have HMU := Lib.hid hmu
    clear hmu
    by_cases hp : pos < s.size
    · have hnext : ∀ ty, (Instr.next (.pointer (some ⟨w.heap.size, 0, none⟩)) true ty).run Tryz.prog wr = _ := fun ty => Lib.run_next_any_at wr w.heap.size s pos ty HK.out hp
      have HK1 := Lib.hid (Lib.iterAt_heap wr w.heap.size s pos (pos + (Utf8.decode s pos).2) HK.out)
      have HF1 : Hid (Fresh w (wr.iterAt w.heap.size s (pos + (Utf8.decode s pos).2))) := Lib.hid ⟨Lib.below_iterAt HF.out.below (Nat.le_refl _) s _⟩
      have HWP := Lib.hid (Lib.decode_width_pos s pos hp)
      obtain ⟨f, rfl⟩ : ∃ g, f = g + 1 := ⟨f - 1, by omega⟩
      have HS1 : Hid ((if numZ (Utf8.decode s pos).1 then spanF numZ s f (pos + (Utf8.decode s pos).2) else pos) = R) := Lib.hid (by have := HS.out; simpa [spanF, hp] using this)
      generalize wr.iterAt w.heap.size s (pos + (Utf8.decode s pos).2) = W1 at *
      generalize (Utf8.decode s pos).2 = wd at *
      have D := Lib.hid (fun X => isOfNum_any ((Utf8.decode s pos).1 : Int) X)
      generalize ((Utf8.decode s pos).1 : Int) = r at *
      obtain ⟨t, ht⟩ : ∃ t, t = numZ r := ⟨_, rfl⟩
      rw [← ht] at D HS1
      clear ht
      cases t
      · have HE : Hid (pos = R) := Lib.hid (by simpa using HS1.out)
        go_wp2_with fail
        go_at_call 55; refine (D.out _).mono ?_; rintro e w1 ⟨rfl, f1⟩
        go_wp2_with fail
        go_returns
        exact ⟨by first | rfl | (rw [HE.out]; rfl), HF1.out.trans f1⟩
      · have HE : Hid (spanF numZ s f (pos + wd) = R) := Lib.hid (by simpa using HS1.out)
        go_wp2_with fail
        go_at_call 55; refine (D.out _).mono ?_; rintro e w1 ⟨rfl, f1⟩
        have HK2 : Hid (w1.heap[w.heap.size]? = some (.stringIter s (pos + wd))) := Lib.hid ((f1.below.block _ (Array.getElem?_eq_some_iff.1 HK1.out).1).trans HK1.out)
        have HF2 := Lib.hid (HF1.out.trans f1)
        clear f1
        go_wp2_with fail
        go_roundw
        case rel => exact ⟨pos + wd, f, by have := HWP.out; omega, HE, HK2, HF2⟩
        case measure =>
          have h1 : w1.iterPos w.heap.size = pos + wd := by simp [World.iterPos, HK2.out]
          have := HWP.out
          have := HMU.out
          omega
    · have hnext : ∀ ty, (Instr.next (.pointer (some ⟨w.heap.size, 0, none⟩)) true ty).run Tryz.prog wr = _ := fun ty => Lib.run_next_end_at wr w.heap.size s pos ty HK.out hp
      have HE : Hid (s.size = R) := Lib.hid (by rw [← HS.out, spanF_end _ _ _ _ hp])
      go_wp2_with fail
      go_returns
      exact ⟨by first | rfl | (rw [← HE.out]; rfl), HF.out⟩
end Go.Proofs.YtcmfmfgedhfaeaaGreatDoor
