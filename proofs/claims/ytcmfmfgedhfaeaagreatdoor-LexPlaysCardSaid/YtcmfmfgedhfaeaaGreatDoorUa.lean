/- The reference: a letter, a digit, a digit in sixteens. -/
import Derived.Test.YtcmfmfgedhfaeaaGreatDoorLb
import Derived.Test.YtcmfmfgedhfaeaaGreatDoorLy
import Derived.Test.YtcmfmfgedhfaeaaGreatDoorNk
import Derived.Test.YtcmfmfgedhfaeaaGreatDoorMf
import Derived.Test.YtcmfmfgedhfaeaaGreatDoorLo
import Derived.Deep.QuietTactic
import Derived.BigQuiet
namespace Go.Proofs.YtcmfmfgedhfaeaaGreatDoor
set_option linter.unusedSimpArgs false
set_option linter.unusedVariables false
open Go.RowKit

theorem digitR_any (r : Int) (w : World) : Calls Tryz.prog 29 #[.int .u8 r] w fun e w' => e = .returned (.bool (digitZ r)) ∧ Fresh w w' := by
  have hc : (48 ≤ r ∧ r ≤ 57) ∨ (48 ≤ r ∧ ¬ r ≤ 57) ∨ ¬ 48 ≤ r := by omega
  rcases hc with ⟨h1, h2⟩ | ⟨h1, h2⟩ | h1
  · have he : digitZ r = true := by simp [digitZ, h1, h2]
    rw [he]
    go_enter Tryz.func29, Tryz.ntmps29
    go_wp2_with fail
    go_returns
    exact ⟨rfl, Fresh.refl _⟩
  · have he : digitZ r = false := by simp [digitZ, h1, h2]
    rw [he]
    go_enter Tryz.func29, Tryz.ntmps29
    go_wp2_with fail
    go_returns
    exact ⟨rfl, Fresh.refl _⟩
  · have he : digitZ r = false := by simp [digitZ, h1]
    rw [he]
    go_enter Tryz.func29, Tryz.ntmps29
    go_wp2_with fail
    go_returns
    exact ⟨rfl, Fresh.refl _⟩
theorem letterR_any (r : Int) (w : World) : Calls Tryz.prog 28 #[.int .u8 r] w fun e w' => e = .returned (.bool (letterZ r)) ∧ Fresh w w' := by
  have hc : (97 ≤ r ∧ r ≤ 122) ∨ (97 ≤ r ∧ ¬ r ≤ 122 ∧ 65 ≤ r ∧ ¬ r ≤ 90 ∧ r ≠ 95) ∨ (¬ 97 ≤ r ∧ 65 ≤ r ∧ r ≤ 90) ∨ r = 95 ∨ (¬ 97 ≤ r ∧ 65 ≤ r ∧ ¬ r ≤ 90 ∧ r ≠ 95) ∨ (¬ 97 ≤ r ∧ ¬ 65 ≤ r ∧ r ≠ 95) := by omega
  rcases hc with ⟨h1, h2⟩ | ⟨h1, h2, h3, h4, h5⟩ | ⟨h1, h2, h3⟩ | rfl | ⟨h1, h2, h3, h4⟩ | ⟨h1, h2, h3⟩
  · have he : letterZ r = true := by simp [letterZ, h1, h2]
    rw [he]
    go_enter Tryz.func28, Tryz.ntmps28
    go_wp2_with fail
    go_returns
    exact ⟨rfl, Fresh.refl _⟩
  · have he : letterZ r = false := by simp [letterZ, h1, h2, h3, h4, h5]
    have b5 : (r == 95) = false := by simpa using h5
    rw [he]
    go_enter Tryz.func28, Tryz.ntmps28
    go_wp2_with fail
    go_returns
    exact ⟨rfl, Fresh.refl _⟩
  · have he : letterZ r = true := by simp [letterZ, h1, h2, h3]
    rw [he]
    go_enter Tryz.func28, Tryz.ntmps28
    go_wp2_with fail
    go_returns
    exact ⟨rfl, Fresh.refl _⟩
  · go_enter Tryz.func28, Tryz.ntmps28
    go_wp2_with fail
    go_returns
    exact ⟨rfl, Fresh.refl _⟩
  · have he : letterZ r = false := by simp [letterZ, h1, h2, h3, h4]
    have b5 : (r == 95) = false := by simpa using h4
    rw [he]
    go_enter Tryz.func28, Tryz.ntmps28
    go_wp2_with fail
    go_returns
    exact ⟨rfl, Fresh.refl _⟩
  · have he : letterZ r = false := by simp [letterZ, h1, h2, h3]
    have b5 : (r == 95) = false := by simpa using h3
    rw [he]
    go_enter Tryz.func28, Tryz.ntmps28
    go_wp2_with fail
    go_returns
    exact ⟨rfl, Fresh.refl _⟩
/-- A digit in sixteens, or none. -/
def hexZ (r : Int) : Int := if 48 ≤ r ∧ r ≤ 57 then r - 48 else if 97 ≤ r ∧ r ≤ 102 then r - 87 else if 65 ≤ r ∧ r ≤ 70 then r - 55 else -1
set_option maxRecDepth 100000 in
set_option maxHeartbeats 4000000 in
theorem hexR_any (r : Int) (w : World) : Calls Tryz.prog 61 #[.int .u8 r] w fun e w' => e = .returned (.int .i64 (hexZ r)) ∧ Fresh w w' := by
  have hc : (48 ≤ r ∧ r ≤ 57) ∨ (97 ≤ r ∧ r ≤ 102) ∨ (65 ≤ r ∧ r ≤ 70) ∨ (97 ≤ r ∧ ¬ r ≤ 102) ∨ (¬ 97 ≤ r ∧ ¬ 65 ≤ r ∧ ¬ 48 ≤ r) ∨ (¬ 97 ≤ r ∧ ¬ 65 ≤ r ∧ 48 ≤ r ∧ ¬ r ≤ 57) ∨ (¬ 97 ≤ r ∧ 65 ≤ r ∧ ¬ r ≤ 70) := by omega
  have D := Lib.hid (fun X => digitR_any r X)
  rcases hc with ⟨h1, h2⟩ | ⟨h1, h2⟩ | ⟨h1, h2⟩ | ⟨h1, h2⟩ | ⟨h1, h2, h3⟩ | ⟨h1, h2, h3, h4⟩ | ⟨h1, h2, h3⟩
  · have hd : digitZ r = true := by unfold digitZ; simp only [Bool.and_eq_true, Bool.and_eq_false_iff, decide_eq_true_eq, decide_eq_false_iff_not]; omega
    have he : hexZ r = r - 48 := by unfold hexZ; rw [if_pos (by omega)]
    rw [he]
    rw [hd] at D
    have hw : IntKind.u8.wrap (r - 48) = r - 48 := IntWalk.u8_in _ (by omega)
    have hv : IntKind.i64.wrap (r - 48) = r - 48 := IntWalk.i64_in _ (by omega)
    go_enter Tryz.func61, Tryz.ntmps61
    go_wp2_with fail
    go_at_call 29; refine (D.out _).mono ?_; rintro e w1 ⟨rfl, f1⟩
    have F1 := Lib.hid f1
    clear f1
    go_wp2_with fail
    go_ret
    exact ⟨by first | rfl | (simp [*]; done) | (simp; omega), F1.out⟩
  · have hd : digitZ r = false := by unfold digitZ; simp only [Bool.and_eq_true, Bool.and_eq_false_iff, decide_eq_true_eq, decide_eq_false_iff_not]; omega
    have he : hexZ r = r - 87 := by unfold hexZ; rw [if_neg (by omega), if_pos (by omega)]
    rw [he]
    rw [hd] at D
    have g1 : 97 ≤ r := h1
    have hw : IntKind.u8.wrap (r - 97) = r - 97 := IntWalk.u8_in _ (by omega)
    have hv : IntKind.i64.wrap (r - 97) = r - 97 := IntWalk.i64_in _ (by omega)
    have hx : r - 97 + 10 = r - 87 := by omega
    have hy : IntKind.i64.wrap (r - 97 + 10) = r - 97 + 10 := IntWalk.i64_in _ (by omega)
    go_enter Tryz.func61, Tryz.ntmps61
    go_wp2_with fail
    go_at_call 29; refine (D.out _).mono ?_; rintro e w1 ⟨rfl, f1⟩
    have F1 := Lib.hid f1
    clear f1
    go_wp2_with fail
    go_ret
    exact ⟨by first | rfl | (simp [*]; done) | (simp; omega), F1.out⟩
  · have hd : digitZ r = false := by unfold digitZ; simp only [Bool.and_eq_true, Bool.and_eq_false_iff, decide_eq_true_eq, decide_eq_false_iff_not]; omega
    have he : hexZ r = r - 55 := by unfold hexZ; rw [if_neg (by omega), if_neg (by omega), if_pos (by omega)]
    rw [he]
    rw [hd] at D
    have g1 : ¬ 97 ≤ r := by omega
    have hw : IntKind.u8.wrap (r - 65) = r - 65 := IntWalk.u8_in _ (by omega)
    have hv : IntKind.i64.wrap (r - 65) = r - 65 := IntWalk.i64_in _ (by omega)
    have hx : r - 65 + 10 = r - 55 := by omega
    have hy : IntKind.i64.wrap (r - 65 + 10) = r - 65 + 10 := IntWalk.i64_in _ (by omega)
    go_enter Tryz.func61, Tryz.ntmps61
    go_wp2_with fail
    go_at_call 29; refine (D.out _).mono ?_; rintro e w1 ⟨rfl, f1⟩
    have F1 := Lib.hid f1
    clear f1
    go_wp2_with fail
    go_ret
    exact ⟨by first | rfl | (simp [*]; done) | (simp; omega), F1.out⟩
  · have hd : digitZ r = false := by unfold digitZ; simp only [Bool.and_eq_true, Bool.and_eq_false_iff, decide_eq_true_eq, decide_eq_false_iff_not]; omega
    have he : hexZ r = -1 := by unfold hexZ; rw [if_neg (by omega), if_neg (by omega), if_neg (by omega)]
    rw [he]
    rw [hd] at D
    have g1 : 65 ≤ r := by omega
    have g2 : ¬ r ≤ 70 := by omega
    go_enter Tryz.func61, Tryz.ntmps61
    go_wp2_with fail
    go_at_call 29; refine (D.out _).mono ?_; rintro e w1 ⟨rfl, f1⟩
    have F1 := Lib.hid f1
    clear f1
    go_wp2_with fail
    go_ret
    exact ⟨by first | rfl | (simp [*]; done) | (simp; omega), F1.out⟩
  · have hd : digitZ r = false := by unfold digitZ; simp only [Bool.and_eq_true, Bool.and_eq_false_iff, decide_eq_true_eq, decide_eq_false_iff_not]; omega
    have he : hexZ r = -1 := by unfold hexZ; rw [if_neg (by omega), if_neg (by omega), if_neg (by omega)]
    rw [he]
    rw [hd] at D
    go_enter Tryz.func61, Tryz.ntmps61
    go_wp2_with fail
    go_at_call 29; refine (D.out _).mono ?_; rintro e w1 ⟨rfl, f1⟩
    have F1 := Lib.hid f1
    clear f1
    go_wp2_with fail
    go_ret
    exact ⟨by first | rfl | (simp [*]; done) | (simp; omega), F1.out⟩
  · have hd : digitZ r = false := by unfold digitZ; simp only [Bool.and_eq_true, Bool.and_eq_false_iff, decide_eq_true_eq, decide_eq_false_iff_not]; omega
    have he : hexZ r = -1 := by unfold hexZ; rw [if_neg (by omega), if_neg (by omega), if_neg (by omega)]
    rw [he]
    rw [hd] at D
    go_enter Tryz.func61, Tryz.ntmps61
    go_wp2_with fail
    go_at_call 29; refine (D.out _).mono ?_; rintro e w1 ⟨rfl, f1⟩
    have F1 := Lib.hid f1
    clear f1
    go_wp2_with fail
    go_ret
    exact ⟨by first | rfl | (simp [*]; done) | (simp; omega), F1.out⟩
  · have hd : digitZ r = false := by unfold digitZ; simp only [Bool.and_eq_true, Bool.and_eq_false_iff, decide_eq_true_eq, decide_eq_false_iff_not]; omega
    have he : hexZ r = -1 := by unfold hexZ; rw [if_neg (by omega), if_neg (by omega), if_neg (by omega)]
    rw [he]
    rw [hd] at D
    go_enter Tryz.func61, Tryz.ntmps61
    go_wp2_with fail
    go_at_call 29; refine (D.out _).mono ?_; rintro e w1 ⟨rfl, f1⟩
    have F1 := Lib.hid f1
    clear f1
    go_wp2_with fail
    go_ret
    exact ⟨by first | rfl | (simp [*]; done) | (simp; omega), F1.out⟩
end Go.Proofs.YtcmfmfgedhfaeaaGreatDoor
/- The reference: a place behind a text. -/
namespace Go.Proofs.YtcmfmfgedhfaeaaGreatDoor
set_option linter.unusedSimpArgs false
set_option linter.unusedVariables false
open Go.RowKit

/-- The place behind the rest of the text. -/
def movF (s : ByteArray) : Nat → Nat → Int → Int → Int × Int
  | 0, _, l, c => (l, c)
  | f + 1, pos, l, c => if pos < s.size then movF s f (pos + (Utf8.decode s pos).2) (behZ l c (Utf8.decode s pos).1).1 (behZ l c (Utf8.decode s pos).1).2 else (l, c)
theorem movF_end (s : ByteArray) (f pos : Nat) (l c : Int) (h : ¬ pos < s.size) : movF s f pos l c = (l, c) := by
  cases f <;> simp [movF, h]
theorem Blk.at1 {w : World} {b : Nat} {x y : Value} (h : Blk w b [x, y]) (v : Value) : Blk (w.setCell ⟨b, 1, none⟩ v) b [x, v] := by
  obtain ⟨h1, h2, h3⟩ := h
  have x0 := h1 0 _ rfl
  have x1 := h1 1 _ rfl
  exact ⟨fun i u hu => by
    match i, hu with
    | 0, hu => simp at hu; subst hu; simp [go_sem, x0, x1]
    | 1, hu => simp at hu; subst hu; simp [go_sem, x0, x1], fun o => by simp [go_sem, h2], by simp [World.setCell]; exact h3⟩
theorem Blk.at0 {w : World} {b : Nat} {x y : Value} (h : Blk w b [x, y]) (v : Value) : Blk (w.setCell ⟨b, 0, none⟩ v) b [v, y] := by
  obtain ⟨h1, h2, h3⟩ := h
  have x0 := h1 0 _ rfl
  have x1 := h1 1 _ rfl
  exact ⟨fun i u hu => by
    match i, hu with
    | 0, hu => simp at hu; subst hu; simp [go_sem, x0, x1]
    | 1, hu => simp at hu; subst hu; simp [go_sem, x0, x1], fun o => by simp [go_sem, h2], by simp [World.setCell]; exact h3⟩
theorem Blk.off {w : World} {b : Nat} {vs : List Value} (h : Blk w b vs) {c : Nat} (hne : b ≠ c) (o : Nat) (v : Value) : Blk (w.setCell ⟨c, o, none⟩ v) b vs := by
  have e : (w.setCell ⟨c, o, none⟩ v).heap[b]? = w.heap[b]? := Below.heap_setCell _ _ _ _ hne
  refine ⟨fun i u hu => ?_, fun o' => ?_, by simp [World.setCell]; exact h.2.2⟩
  · have := h.1 i u hu
    simp only [World.cell?, e] at this ⊢
    exact this
  · have := h.2.1 o'
    simp only [World.frozen?, e] at this ⊢
    exact this
set_option maxRecDepth 100000 in
set_option maxHeartbeats 8000000 in
theorem moved_any (s : ByteArray) (hs : s.size ≤ 1048576) (l0 c0 : Int) (hl0 : 0 ≤ l0 ∧ l0 ≤ 1099511627776) (hc0 : 0 ≤ c0 ∧ c0 ≤ 1099511627776) (w : World) :
    Calls Tryz.prog 18 #[.agg #[.int .i64 l0, .int .i64 c0], .string s] w fun e w' => e = .returned (.agg #[.int .i64 (movF s s.size 0 l0 c0).1, .int .i64 (movF s s.size 0 l0 c0).2]) ∧ Fresh w w' := by
  obtain ⟨R, hR⟩ : ∃ R, R = movF s s.size 0 l0 c0 := ⟨_, rfl⟩
  rw [← hR]
  have HR := Lib.hid hR
  clear hR
  go_enter Tryz.func18, Tryz.ntmps18
  go_upto_region 1 with fail
  have A2 : Hid (Blk ((w.alloc (.cells #[.int .i64 l0, .int .i64 c0] 25)).alloc (.cells #[.int .i64 0, .int .i64 0] 25)) w.heap.size [.int .i64 l0, .int .i64 c0]) := Lib.hid ((Blk.new w #[.int .i64 l0, .int .i64 c0] 25).fresh ((Fresh.refl _).alloc _ _))
  have R2 : Hid (Blk ((w.alloc (.cells #[.int .i64 l0, .int .i64 c0] 25)).alloc (.cells #[.int .i64 0, .int .i64 0] 25)) (w.heap.size + 1) [.int .i64 0, .int .i64 0]) := Lib.hid (by have := Blk.new (w.alloc (.cells #[.int .i64 l0, .int .i64 c0] 25)) #[.int .i64 0, .int .i64 0] 25; simpa only [World.size_alloc] using this)
  have F2 : Hid (Fresh w ((w.alloc (.cells #[.int .i64 l0, .int .i64 c0] 25)).alloc (.cells #[.int .i64 0, .int .i64 0] 25))) := Lib.hid (((Fresh.refl w).alloc _ _).alloc _ _)
  have HI : Hid (((w.alloc (.cells #[.int .i64 l0, .int .i64 c0] 25)).alloc (.cells #[.int .i64 0, .int .i64 0] 25)).heap.size = w.heap.size + 2) := Lib.hid (by simp)
  generalize ((w.alloc (.cells #[.int .i64 l0, .int .i64 c0] 25)).alloc (.cells #[.int .i64 0, .int .i64 0] 25)) = W2 at *
  have hk0 : Hid ((W2.iter s 0).heap[W2.heap.size]? = some (.stringIter s 0)) := Lib.hid (World.iter_heap W2 s 0)
  have F3 : Hid (Fresh W2 (W2.iter s 0)) := Lib.hid ((Fresh.refl _).obj _)
  have G3 : Hid (Fresh w (W2.iter s 0)) := Lib.hid (F2.out.trans F3.out)
  have A3 := Lib.hid (A2.out.fresh F3.out)
  have R3 := Lib.hid (R2.out.fresh F3.out)
  clear A2 R2 F2 F3
  go_wp2_with fail
  go_loopw [6] (fun _ wr => ∃ (pos k f : Nat) (l c : Int), s.size ≤ pos + f ∧ Hid (movF s f pos l c = R) ∧ k ≤ pos ∧ k ≤ s.size ∧ (0 ≤ l ∧ l ≤ 1099511627776 + k) ∧ (0 ≤ c ∧ c ≤ 1099511627776 + k) ∧ Hid (wr.heap[W2.heap.size]? = some (.stringIter s pos)) ∧ Hid (Blk wr w.heap.size [.int .i64 l, .int .i64 c]) ∧ Hid (Blk wr (w.heap.size + 1) [.int .i64 0, .int .i64 0]) ∧ Hid (Fresh w wr)) (fun _ wr => s.size - wr.iterPos W2.heap.size)
  case atStart => exact ⟨0, 0, s.size, l0, c0, by omega, Lib.hid HR.out.symm, by omega, by omega, by omega, by omega, hk0, A3, R3, G3⟩
  case round =>
    obtain ⟨pos, k, f, l, c, hpf, HS, hkp, hps, hl, hc, HK, HA, HR0, HG⟩ := hrel
    clear hk0 A3 R3 G3
    have HMU : Hid (wr.iterPos W2.heap.size = pos) := Lib.hid (by simp [World.iterPos, HK.out])
    by_cases hp : pos < s.size
    · have hnext : ∀ ty, (Instr.next (.pointer (some ⟨W2.heap.size, 0, none⟩)) true ty).run Tryz.prog wr = _ := fun ty => Lib.run_next_any_at wr W2.heap.size s pos ty HK.out hp
      have HK1 := Lib.hid (Lib.iterAt_heap wr W2.heap.size s pos (pos + (Utf8.decode s pos).2) HK.out)
      have hks : W2.heap.size < wr.heap.size := (Array.getElem?_eq_some_iff.1 HK.out).1
      have kept : ∀ (b : Nat) (vs : List Value), b ≠ W2.heap.size → Blk wr b vs → Blk (wr.iterAt W2.heap.size s (pos + (Utf8.decode s pos).2)) b vs := fun b vs hb h => by
        have e := Lib.iterAt_other wr W2.heap.size b s (pos + (Utf8.decode s pos).2) hb
        refine ⟨fun i v hv => ?_, fun o => ?_, by rw [Lib.iterAt_size]; exact h.2.2⟩
        · have := h.1 i v hv
          simp only [World.cell?, e] at this ⊢
          exact this
        · have := h.2.1 o
          simp only [World.frozen?, e] at this ⊢
          exact this
      have HA1 := Lib.hid (kept w.heap.size _ (by have := HI.out; omega) HA.out)
      have HR1 := Lib.hid (kept (w.heap.size + 1) _ (by have := HI.out; omega) HR0.out)
      have HG1 : Hid (Fresh w (wr.iterAt W2.heap.size s (pos + (Utf8.decode s pos).2))) := Lib.hid ⟨Lib.below_iterAt HG.out.below (by have := HI.out; omega) s _⟩
      have HWP := Lib.hid (Lib.decode_width_pos s pos hp)
      obtain ⟨f, rfl⟩ : ∃ g, f = g + 1 := ⟨f - 1, by omega⟩
      have HS1 : Hid (movF s f (pos + (Utf8.decode s pos).2) (behZ l c (Utf8.decode s pos).1).1 (behZ l c (Utf8.decode s pos).1).2 = R) := Lib.hid (by have := HS.out; simpa only [movF, hp, if_true] using this)
      clear kept hks HK HA HR0 HG HS
      generalize wr.iterAt W2.heap.size s (pos + (Utf8.decode s pos).2) = W1 at *
      generalize (Utf8.decode s pos).2 = wd at *
      generalize ((Utf8.decode s pos).1 : Int) = r at *
      have NA : Hid (w.heap.size ≠ W2.heap.size) := Lib.hid (by have := HI.out; omega)
      have r0 := HA1.out.1 0 _ rfl
      have r1 := HA1.out.1 1 _ rfl
      have rf := HA1.out.2.1
      have rz := HA1.out.2.2
      have fin : ∀ (l' c' : Int) (W5 : World), behZ l c r = (l', c') → W5.heap[W2.heap.size]? = some (.stringIter s (pos + wd)) → Blk W5 w.heap.size [.int .i64 l', .int .i64 c'] → Blk W5 (w.heap.size + 1) [.int .i64 0, .int .i64 0] → Fresh w W5 → movF s f (pos + wd) l' c' = R ∧ s.size - W5.iterPos W2.heap.size < s.size - wr.iterPos W2.heap.size := fun l' c' W5 hb hk _ _ _ => by
        have h1 : W5.iterPos W2.heap.size = pos + wd := by simp [World.iterPos, hk]
        have h2 := HS1.out
        rw [hb] at h2
        exact ⟨h2, by rw [h1, HMU.out]; have := HWP.out; omega⟩
      by_cases hr : r = 10
      · subst hr
        have hb : behZ l c 10 = (l + 1, 1) := rfl
        have B5 := Lib.hid (((HA1.out.at1 (.int .i64 (c + 1))).at0 (.int .i64 (l + 1))).at1 (.int .i64 1))
        have Q5 := Lib.hid (((HR1.out.off (by omega : w.heap.size + 1 ≠ w.heap.size) 1 (.int .i64 (c + 1))).off (by omega : w.heap.size + 1 ≠ w.heap.size) 0 (.int .i64 (l + 1))).off (by omega : w.heap.size + 1 ≠ w.heap.size) 1 (.int .i64 1))
        have G5 := Lib.hid (((HG1.out.setCell (p := ⟨w.heap.size, 1, none⟩) (Nat.le_refl _) (.int .i64 (c + 1))).setCell (p := ⟨w.heap.size, 0, none⟩) (Nat.le_refl _) (.int .i64 (l + 1))).setCell (p := ⟨w.heap.size, 1, none⟩) (Nat.le_refl _) (.int .i64 1))
        have K5 : Hid ((((W1.setCell ⟨w.heap.size, 1, none⟩ (.int .i64 (c + 1))).setCell ⟨w.heap.size, 0, none⟩ (.int .i64 (l + 1))).setCell ⟨w.heap.size, 1, none⟩ (.int .i64 1)).heap[W2.heap.size]? = some (.stringIter s (pos + wd))) := Lib.hid (by rw [Below.heap_setCell _ _ _ _ (by simpa using Ne.symm NA.out), Below.heap_setCell _ _ _ _ (by simpa using Ne.symm NA.out), Below.heap_setCell _ _ _ _ (by simpa using Ne.symm NA.out)]; exact HK1.out)
        obtain ⟨hS5, hM5⟩ := fin _ _ _ hb K5.out B5.out Q5.out G5.out
        clear fin
        go_wp2_with fail
        go_roundw
        case rel => exact ⟨pos + wd, k + 1, f, l + 1, 1, by have := HWP.out; omega, Lib.hid hS5, by have := HWP.out; omega, by omega, by omega, by omega, K5, B5, Q5, G5⟩
        case measure => exact hM5
      · have brr : (r == 10) = false := by simpa using hr
        have hb : behZ l c r = (l, c + 1) := by unfold behZ; rw [if_neg hr]
        have B5 := Lib.hid (HA1.out.at1 (.int .i64 (c + 1)))
        have Q5 := Lib.hid (HR1.out.off (by omega : w.heap.size + 1 ≠ w.heap.size) 1 (.int .i64 (c + 1)))
        have G5 := Lib.hid (HG1.out.setCell (p := ⟨w.heap.size, 1, none⟩) (Nat.le_refl _) (.int .i64 (c + 1)))
        have K5 : Hid ((W1.setCell ⟨w.heap.size, 1, none⟩ (.int .i64 (c + 1))).heap[W2.heap.size]? = some (.stringIter s (pos + wd))) := Lib.hid (by rw [Below.heap_setCell _ _ _ _ (by simpa using Ne.symm NA.out)]; exact HK1.out)
        obtain ⟨hS5, hM5⟩ := fin _ _ _ hb K5.out B5.out Q5.out G5.out
        clear fin
        go_wp2_with fail
        go_roundw
        case rel => exact ⟨pos + wd, k + 1, f, l, c + 1, by have := HWP.out; omega, Lib.hid hS5, by have := HWP.out; omega, by omega, by omega, by omega, K5, B5, Q5, G5⟩
        case measure => exact hM5
    · have hnext : ∀ ty, (Instr.next (.pointer (some ⟨W2.heap.size, 0, none⟩)) true ty).run Tryz.prog wr = _ := fun ty => Lib.run_next_end_at wr W2.heap.size s pos ty HK.out hp
      have HE : Hid ((l, c) = R) := Lib.hid (by rw [← HS.out, movF_end _ _ _ _ _ hp])
      have r0 := HA.out.1 0 _ rfl
      have r1 := HA.out.1 1 _ rfl
      have q0 := HR0.out.1 0 _ rfl
      have q1 := HR0.out.1 1 _ rfl
      have qf := HR0.out.2.1
      have qz := HR0.out.2.2
      go_wp2_with fail
      refine bodyPost_ret (v := ?_) ?_ rfl ?_; rotate_left 1; focus (simp [results, Tryz.results18, go_sem, *]; (try rfl); done)
      exact ⟨by rw [← HE.out], (HG.out.setCell (by simp) _).setCell (by simp) _⟩
end Go.Proofs.YtcmfmfgedhfaeaaGreatDoor
/- The reference: where the first bytes stand that are no rune. -/
namespace Go.Proofs.YtcmfmfgedhfaeaaGreatDoor
set_option linter.unusedSimpArgs false
set_option linter.unusedVariables false
open Go.RowKit

def utfF (s : ByteArray) : Nat → Nat → Int
  | 0, _ => -1
  | f + 1, pos => if pos < s.size then (if Utf8.decode s pos = (65533, 1) then pos else utfF s f (pos + (Utf8.decode s pos).2)) else -1
theorem utfF_end (s : ByteArray) (f pos : Nat) (h : ¬ pos < s.size) : utfF s f pos = -1 := by
  cases f <;> simp [utfF, h]
theorem pre3 (s : ByteArray) (pos : Nat) : ((s.extract pos (pos + 3)).toList == [239, 191, 189]) = Lib.hasPrefix (s.data.toList.drop pos) [239, 191, 189] := by
  rw [ByteArray.toList_eq, Lib.extract_data]
  unfold Lib.hasPrefix
  rw [Bool.eq_iff_iff, List.isPrefixOf_iff_prefix, List.prefix_iff_eq_take, beq_iff_eq]
  simp only [List.length_cons, List.length_nil, Nat.zero_add, Nat.add_sub_cancel_left]
  exact eq_comm
theorem pre3_len (s : ByteArray) (pos : Nat) (h : Lib.hasPrefix (s.data.toList.drop pos) [239, 191, 189] = true) : pos + 3 ≤ s.size := by
  unfold Lib.hasPrefix at h
  have := (List.isPrefixOf_iff_prefix.1 h).length_le
  rw [List.length_drop, ← size_list] at this
  simp only [List.length_cons, List.length_nil] at this
  omega
set_option maxRecDepth 100000 in
set_option maxHeartbeats 8000000 in
theorem utf8_any (s : ByteArray) (hs : s.size ≤ 1048576) (w : World) :
    Calls Tryz.prog 17 #[.string s] w fun e w' => e = .returned (.int .i64 (utfF s s.size 0)) ∧ Fresh w w' := by
  obtain ⟨R, hR⟩ : ∃ R, R = utfF s s.size 0 := ⟨_, rfl⟩
  rw [← hR]
  have HR := Lib.hid hR
  clear hR
  go_enter Tryz.func17, Tryz.ntmps17
  have hk0 : Hid ((w.iter s 0).heap[w.heap.size]? = some (.stringIter s 0)) := Lib.hid (World.iter_heap w s 0)
  have G3 : Hid (Fresh w (w.iter s 0)) := Lib.hid ((Fresh.refl _).obj _)
  go_wp2_with fail
  go_loopw [3, 4] (fun _ _ wr => ∃ (pos f : Nat), s.size ≤ pos + f ∧ Hid (utfF s f pos = R) ∧ Hid (wr.heap[w.heap.size]? = some (.stringIter s pos)) ∧ Hid (Fresh w wr)) (fun _ _ wr => s.size - wr.iterPos w.heap.size)
  case atStart => exact ⟨0, s.size, by omega, Lib.hid HR.out.symm, hk0, G3⟩
  case round =>
    obtain ⟨pos, f, hpf, HS, HK, HG⟩ := hrel
    clear hk0 G3
    have HMU : Hid (wr.iterPos w.heap.size = pos) := Lib.hid (by simp [World.iterPos, HK.out])
    by_cases hp : pos < s.size
    · have hnext : ∀ ty, (Instr.next (.pointer (some ⟨w.heap.size, 0, none⟩)) true ty).run Tryz.prog wr = _ := fun ty => Lib.run_next_any_at wr w.heap.size s pos ty HK.out hp
      have HK1 := Lib.hid (Lib.iterAt_heap wr w.heap.size s pos (pos + (Utf8.decode s pos).2) HK.out)
      have HG1 : Hid (Fresh w (wr.iterAt w.heap.size s (pos + (Utf8.decode s pos).2))) := Lib.hid ⟨Lib.below_iterAt HG.out.below (Nat.le_refl _) s _⟩
      have HWP := Lib.hid (Lib.decode_width_pos s pos hp)
      obtain ⟨f, rfl⟩ : ∃ g, f = g + 1 := ⟨f - 1, by omega⟩
      have HERR := Lib.hid (dec_err s pos hp)
      have HS1 : Hid ((if Utf8.decode s pos = (65533, 1) then (pos : Int) else utfF s f (pos + (Utf8.decode s pos).2)) = R) := Lib.hid (by have := HS.out; simpa only [utfF, hp, if_true] using this)
      have P3 := Lib.hid (pre3 s pos)
      have PL := Lib.hid (pre3_len s pos)
      generalize Lib.hasPrefix (s.data.toList.drop pos) [239, 191, 189] = hpx at *
      clear HK HG HS
      generalize wr.iterAt w.heap.size s (pos + (Utf8.decode s pos).2) = W1 at *
      have hw1 : IntKind.i64.wrap ((pos : Int) + 3) = ((pos + 3 : Nat) : Int) := (IntWalk.i64_in _ (by omega)).trans (by omega)
      by_cases hru : (Utf8.decode s pos).1 = 65533
      · have brr : ((((Utf8.decode s pos).1 : Nat) : Int) == 65533) = true := by rw [hru]; rfl
        rcases HERR.out hru with ⟨hd, hx⟩ | ⟨hd, hx⟩
        · subst hx
          have HE : Hid ((pos : Int) = R) := Lib.hid (by rw [← HS1.out, if_pos hd])
          clear HS1 HERR hd hru
          generalize (Utf8.decode s pos).2 = wd at *
          generalize ((Utf8.decode s pos).1 : Int) = r at *
          by_cases hl : s.size < pos + 3
          · have l1 : (s.size : Int) < (pos : Int) + 3 := by omega
            go_wp2_with fail
            go_ret
            exact ⟨by rw [← HE.out]; rfl, HG1.out⟩
          · have l1 : ¬ (s.size : Int) < (pos : Int) + 3 := by omega
            have l2 : (pos : Int) + 3 ≤ (s.size : Int) := by omega
            have p3 := P3.out
            go_wp2_with fail
            go_ret
            exact ⟨by rw [← HE.out]; rfl, HG1.out⟩
        · subst hx
          have HE : Hid (utfF s f (pos + (Utf8.decode s pos).2) = R) := Lib.hid (by rw [← HS1.out, if_neg hd])
          have hl := PL.out rfl
          clear HS1 HERR hd hru
          generalize (Utf8.decode s pos).2 = wd at *
          generalize ((Utf8.decode s pos).1 : Int) = r at *
          have l1 : ¬ (s.size : Int) < (pos : Int) + 3 := by omega
          have l2 : (pos : Int) + 3 ≤ (s.size : Int) := by omega
          have p3 := P3.out
          go_wp2_with fail
          go_roundw
          case rel => exact ⟨pos + wd, f, by have := HWP.out; omega, HE, HK1, HG1⟩
          case measure => have h1 : W1.iterPos w.heap.size = pos + wd := (by simp [World.iterPos, HK1.out]); have := HWP.out; have := HMU.out; omega
      · have brr : ((((Utf8.decode s pos).1 : Nat) : Int) == 65533) = false := by simp only [beq_eq_false_iff_ne]; omega
        have HE : Hid (utfF s f (pos + (Utf8.decode s pos).2) = R) := Lib.hid (by rw [← HS1.out, if_neg (fun e => hru (by rw [e]))])
        clear HS1 HERR hru
        generalize (Utf8.decode s pos).2 = wd at *
        generalize ((Utf8.decode s pos).1 : Int) = r at *
        go_wp2_with fail
        go_roundw
        case rel => exact ⟨pos + wd, f, by have := HWP.out; omega, HE, HK1, HG1⟩
        case measure => have h1 : W1.iterPos w.heap.size = pos + wd := (by simp [World.iterPos, HK1.out]); have := HWP.out; have := HMU.out; omega
    · have hnext : ∀ ty, (Instr.next (.pointer (some ⟨w.heap.size, 0, none⟩)) true ty).run Tryz.prog wr = _ := fun ty => Lib.run_next_end_at wr w.heap.size s pos ty HK.out hp
      have HE : Hid (-1 = R) := Lib.hid (by rw [← HS.out, utfF_end _ _ _ hp])
      go_wp2_with fail
      go_ret
      exact ⟨by rw [← HE.out]; rfl, HG.out⟩
end Go.Proofs.YtcmfmfgedhfaeaaGreatDoor
/- The reserved words and the signs as the reference scans for them, plainly. -/
namespace Go.Proofs.YtcmfmfgedhfaeaaGreatDoor
set_option linter.unusedSimpArgs false
set_option linter.unusedVariables false

set_option maxRecDepth 100000 in
def wlit : List UInt8 := [32, 98, 114, 101, 97, 107, 32, 99, 97, 115, 101, 32, 99, 104, 97, 114, 32, 99, 111, 110, 116, 105, 110, 117, 101, 32, 100, 101, 102, 97, 117, 108, 116, 32, 100, 111, 32, 100, 111, 117, 98, 108, 101, 32, 101, 108, 115, 101, 32, 101, 120, 116, 101, 114, 110, 32, 102, 111, 114, 32, 103, 111, 116, 111, 32, 105, 102, 32, 105, 110, 116, 32, 108, 111, 110, 103, 32, 114, 101, 116, 117, 114, 110, 32, 115, 104, 111, 114, 116, 32, 115, 105, 103, 110, 101, 100, 32, 115, 105, 122, 101, 111, 102, 32, 115, 116, 114, 117, 99, 116, 32, 115, 119, 105, 116, 99, 104, 32, 117, 110, 105, 111, 110, 32, 117, 110, 115, 105, 103, 110, 101, 100, 32, 118, 111, 105, 100, 32, 119, 104, 105, 108, 101, 32]
set_option maxRecDepth 100000 in
def slit : List UInt8 := [60, 60, 61, 32, 62, 62, 61, 32, 43, 43, 32, 45, 45, 32, 45, 62, 32, 60, 60, 32, 62, 62, 32, 60, 61, 32, 62, 61, 32, 61, 61, 32, 33, 61, 32, 38, 38, 32, 124, 124, 32, 43, 61, 32, 45, 61, 32, 42, 61, 32, 47, 61, 32, 37, 61, 32, 38, 61, 32, 124, 61, 32, 94, 61, 32, 43, 32, 45, 32, 42, 32, 47, 32, 37, 32, 38, 32, 124, 32, 94, 32, 126, 32, 33, 32, 60, 32, 62, 32, 61, 32, 63, 32, 58, 32, 59, 32, 44, 32, 46, 32, 40, 32, 41, 32, 91, 32, 93, 32, 123, 32, 125, 32]
/-- A word stands behind the blank at i. -/
def hitW (x : List UInt8) (i : Nat) : Bool := decide (wlit.getD i 0 = 32) && decide (i + 1 + x.length < 144) && decide ((wlit.drop (i + 1)).take x.length = x) && decide (wlit.getD (i + 1 + x.length) 0 = 32)
set_option maxRecDepth 100000 in
theorem wlit_at : ∀ i : Fin 144, wlit.getD i.val 0 = 32 → i.val + 1 < 144 → (wlit.drop (i.val + 1)).takeWhile (· ≠ 32) ∈ wordsL := by decide +kernel
set_option maxRecDepth 100000 in
theorem wlit_of : (wordsL.all fun x => (List.range 144).any (hitW x)) = true := by decide +kernel
set_option maxRecDepth 100000 in
theorem wlit_len : wlit.length = 144 := by decide
theorem words_nb : ∀ x ∈ wordsL, (32 : UInt8) ∉ x ∧ x ≠ [] := by decide +kernel
theorem takeW (x r : List UInt8) (h : (32 : UInt8) ∉ x) : (x ++ 32 :: r).takeWhile (· ≠ 32) = x := by
  induction x with
  | nil => simp
  | cons c x ih =>
    have h1 : c ≠ 32 := fun e => h (by simp [e])
    have h2 : (32 : UInt8) ∉ x := fun e => h (by simp [e])
    simp only [List.cons_append]
    rw [List.takeWhile_cons_of_pos (by simpa using h1), ih h2]
theorem hit_in (x : List UInt8) (i : Nat) (hi : i < 144) (hb : (32 : UInt8) ∉ x) (h : hitW x i = true) : x ∈ wordsL := by
  simp only [hitW, Bool.and_eq_true, decide_eq_true_eq] at h
  obtain ⟨⟨⟨h1, h2⟩, h3⟩, h4⟩ := h
  have e : wlit.drop (i + 1) = x ++ 32 :: wlit.drop (i + 1 + x.length + 1) := by
    have e1 := List.take_append_drop x.length (wlit.drop (i + 1))
    rw [h3, List.drop_drop, drop_cons wlit (i + 1 + x.length) (by rw [wlit_len]; omega), h4] at e1
    exact e1.symm
  have := wlit_at ⟨i, hi⟩ h1 (by simp only; omega)
  simp only at this
  rw [e, takeW x _ hb] at this
  exact this
theorem miss_out (x : List UInt8) (h : ∀ i, i < 144 → hitW x i = false) : x ∉ wordsL := fun hx => by
  have := List.all_eq_true.1 wlit_of x hx
  obtain ⟨i, hi, he⟩ := List.any_eq_true.1 this
  rw [h i (List.mem_range.1 hi)] at he
  cases he
theorem blank_out (x : List UInt8) (h : (32 : UInt8) ∈ x) : x ∉ wordsL := fun hx => (words_nb x hx).1 h

/-- The reference's loop for a sign: what was gathered since the last blank, and the rest. -/
def sgnW (s : List UInt8) : List UInt8 → List UInt8 → List UInt8
  | _, [] => []
  | cur, c :: r => if c ≠ 32 then sgnW s (cur ++ [c]) r else if cur.isPrefixOf s = true then cur else sgnW s [] r
def sgnF (s : List UInt8) : List (List UInt8) → List UInt8
  | [] => []
  | z :: r => if z.isPrefixOf s = true then z else sgnF s r
theorem sgnW_word (s r : List UInt8) : ∀ (z cur : List UInt8), (32 : UInt8) ∉ z → sgnW s cur (z ++ 32 :: r) = if (cur ++ z).isPrefixOf s = true then cur ++ z else sgnW s [] r
  | [], cur, _ => by simp [sgnW]
  | c :: z, cur, h => by
    have h1 : c ≠ 32 := fun e => h (by simp [e])
    have h2 : (32 : UInt8) ∉ z := fun e => h (by simp [e])
    simp only [List.cons_append, sgnW, ne_eq, h1, not_false_eq_true, if_true]
    rw [sgnW_word s r z (cur ++ [c]) h2]
    simp
theorem sgnW_all (s : List UInt8) : ∀ zs : List (List UInt8), (∀ z ∈ zs, (32 : UInt8) ∉ z) → sgnW s [] (zs.flatMap (· ++ [32])) = sgnF s zs
  | [], _ => rfl
  | z :: zs, h => by
    have e : (z :: zs).flatMap (· ++ [32]) = z ++ 32 :: zs.flatMap (· ++ [32]) := by simp
    rw [e, sgnW_word s _ z [] (h z (by simp)), sgnW_all s zs (fun y hy => h y (by simp [hy]))]
    simp [sgnF]
set_option maxRecDepth 100000 in
theorem slit_eq : slit = signsL.flatMap (· ++ [32]) := by decide +kernel
set_option maxRecDepth 100000 in
theorem slit_len : slit.length = 113 := by decide
/-- The first of some texts that begins one, where the longer ones stand first. -/
theorem sgnF_in (s : List UInt8) : ∀ zs : List (List UInt8), sgnF s zs ≠ [] → sgnF s zs ∈ zs ∧ sgnF s zs <+: s
  | [], h => absurd rfl h
  | z :: zs, h => by
    unfold sgnF at h ⊢
    split
    · rename_i hz
      exact ⟨by simp, List.isPrefixOf_iff_prefix.1 hz⟩
    · rename_i hz
      rw [if_neg hz] at h
      have := sgnF_in s zs h
      exact ⟨by simp [this.1], this.2⟩
theorem sgnF_max (s : List UInt8) : ∀ zs : List (List UInt8), zs.Pairwise (fun a b => b.length ≤ a.length) → ∀ z ∈ zs, z <+: s → z.length ≤ (sgnF s zs).length
  | [], _, z, hz, _ => by simp at hz
  | y :: zs, hp, z, hz, hs => by
    rw [List.pairwise_cons] at hp
    unfold sgnF
    split
    · rcases List.mem_cons.1 hz with rfl | hz
      · exact Nat.le_refl _
      · exact hp.1 z hz
    · rename_i hy
      rcases List.mem_cons.1 hz with rfl | hz
      · exact absurd (List.isPrefixOf_iff_prefix.2 hs) hy
      · exact sgnF_max s zs hp.2 z hz hs
theorem signs_desc : signsL.Pairwise (fun a b => b.length ≤ a.length) := by decide +kernel
theorem signs_three : ∀ z ∈ signsL, z.length ≤ 3 ∧ z ≠ [] := by decide +kernel
/-- The reference's sign is the program's. -/
theorem sgn_eq (s : List UInt8) : sgnW s [] slit = s.take (signNL s (min 3 s.length)) ∧ (sgnW s [] slit).length = signNL s (min 3 s.length) := by
  have e1 : sgnW s [] slit = sgnF s signsL := by rw [slit_eq]; exact sgnW_all s _ (fun z hz => (signs_blank z hz).2.1)
  rw [e1]
  have hle := signNL_le s (min 3 s.length)
  by_cases h0 : signNL s (min 3 s.length) = 0
  · rw [h0]
    by_cases hF : sgnF s signsL = []
    · rw [hF]; simp
    · obtain ⟨h1, h2⟩ := sgnF_in s signsL hF
      have h3 := signs_three _ h1
      have hlen := h2.length_le
      have hpos : 0 < (sgnF s signsL).length := List.length_pos_iff.2 hF
      have := signNL_max s (min 3 s.length) (sgnF s signsL).length (by omega) (by omega)
      rw [← List.prefix_iff_eq_take.1 h2] at this
      exact absurd h1 this
  · have hm := signNL_in s _ h0
    have hpre : s.take (signNL s (min 3 s.length)) <+: s := List.take_prefix _ _
    have hlen : (s.take (signNL s (min 3 s.length))).length = signNL s (min 3 s.length) := by rw [List.length_take]; omega
    have hmax := sgnF_max s signsL signs_desc _ hm hpre
    rw [hlen] at hmax
    have hF : sgnF s signsL ≠ [] := fun e => by rw [e] at hmax; simp at hmax; exact h0 hmax
    obtain ⟨h1, h2⟩ := sgnF_in s signsL hF
    have h3 := signs_three _ h1
    have hl2 := h2.length_le
    have hle2 : (sgnF s signsL).length ≤ signNL s (min 3 s.length) := by
      apply Nat.le_of_not_lt
      intro hc
      have := signNL_max s (min 3 s.length) (sgnF s signsL).length hc (by omega)
      rw [← List.prefix_iff_eq_take.1 h2] at this
      exact this h1
    have hl : (sgnF s signsL).length = signNL s (min 3 s.length) := by omega
    refine ⟨?_, hl⟩
    rw [← hl]
    exact List.prefix_iff_eq_take.1 h2
end Go.Proofs.YtcmfmfgedhfaeaaGreatDoor
/- Numbers as the reference reads them, plainly. -/
namespace Go.Proofs.YtcmfmfgedhfaeaaGreatDoor
set_option linter.unusedSimpArgs false
set_option linter.unusedVariables false

/-- The letters behind the digits, from the end: what is left, how many u, how many l. -/
def stripL (s : List UInt8) : Nat → Nat → Nat → Nat × Nat × Nat
  | 0, u, l => (0, u, l)
  | n + 1, u, l => if s.getD n 0 = 117 ∨ s.getD n 0 = 85 then stripL s n (u + 1) l else if s.getD n 0 = 108 ∨ s.getD n 0 = 76 then stripL s n u (l + 1) else (n + 1, u, l)
def digR (base : Nat) : Nat → List UInt8 → Option Nat
  | acc, [] => some acc
  | acc, c :: r => if hexZ (c.toNat : Int) < 0 ∨ base ≤ (hexZ (c.toNat : Int)).toNat ∨ (M64 - (hexZ (c.toNat : Int)).toNat) / base < acc then none else digR base (acc * base + (hexZ (c.toNat : Int)).toNat) r
def baseR (d : List UInt8) : Nat × Nat := if 1 < d.length ∧ d.getD 0 0 = 48 then (if d.getD 1 0 = 120 ∨ d.getD 1 0 = 88 then (16, 2) else (8, 1)) else (10, 0)
def wholeD (d : List UInt8) (u l : Nat) : Option Nat := if 1 < u ∨ 1 < l ∨ d.length ≤ (baseR d).2 then none else digR (baseR d).1 0 (d.drop (baseR d).2)
def wholeR (s : List UInt8) : Option Nat := wholeD (s.take (stripL s s.length 0 0).1) (stripL s s.length 0 0).2.1 (stripL s s.length 0 0).2.2

theorem hexv_fin : ∀ c : Fin 256, (if hexZ (c.val : Int) < 0 then 16 ≤ digV c.val else digV c.val < 16 ∧ hexZ (c.val : Int) = digV c.val) := by decide +kernel
theorem hexv (c : UInt8) : (hexZ (c.toNat : Int) < 0 ∧ 16 ≤ digV c.toNat) ∨ (¬ hexZ (c.toNat : Int) < 0 ∧ digV c.toNat < 16 ∧ (hexZ (c.toNat : Int)).toNat = digV c.toNat) := by
  have h := hexv_fin ⟨c.toNat, c.toNat_lt⟩
  simp only at h
  split at h
  · rename_i k; exact Or.inl ⟨k, h⟩
  · rename_i k; exact Or.inr ⟨k, h.1, by rw [h.2]; simp⟩
theorem digR_pu (base cut : Nat) (hb : 2 ≤ base ∧ base ≤ 16) (hc : M64 < cut * base) : ∀ (l : List UInt8) (acc : Nat), digR base acc l = okOf (puB base cut M64 acc l)
  | [], acc => rfl
  | c :: r, acc => by
    simp only [digR, puB]
    rcases hexv c with ⟨h1, h2⟩ | ⟨h1, h2, h3⟩
    · rw [if_pos (Or.inl h1), if_pos (by omega)]; rfl
    · rw [h3]
      by_cases hbd : base ≤ digV c.toNat
      · rw [if_pos (Or.inr (Or.inl hbd)), if_pos hbd]; rfl
      · rw [if_neg hbd]
        have hM : digV c.toNat ≤ M64 := by have : M64 = 18446744073709551615 := rfl; omega
        have key : (M64 - digV c.toNat) / base < acc ↔ M64 < acc * base + digV c.toNat := by
          rw [Nat.div_lt_iff_lt_mul (by omega)]
          omega
        by_cases hk : M64 < acc * base + digV c.toNat
        · rw [if_pos (Or.inr (Or.inr (key.2 hk)))]
          split
          · rfl
          · rfl
        · have hn : ¬ cut ≤ acc := fun h => by
            have := Nat.mul_le_mul_right base h
            omega
          rw [if_neg hn, if_neg hk, if_neg (fun h => by
            rcases h with h | h | h
            · exact h1 h
            · exact hbd h
            · exact hk (key.1 h))]
          exact digR_pu base cut hb hc r _
theorem digt_fin : ∀ c : Fin 256, (48 ≤ c.val ∧ c.val ≤ 57 ∧ digV c.val = c.val - 48 ∧ c.val - 48 < 10) ∨ (¬ (48 ≤ c.val ∧ c.val ≤ 57) ∧ 10 ≤ digV c.val) := by decide +kernel
theorem pu10_pu : ∀ (l : List UInt8) (acc : Nat), okOf (Lib.parseUint10 acc l) = okOf (puB 10 1844674407370955162 M64 acc l)
  | [], acc => rfl
  | c :: r, acc => by
    simp only [Lib.parseUint10, puB]
    have hm : M64 = 18446744073709551615 := rfl
    rcases digt_fin ⟨c.toNat, c.toNat_lt⟩ with ⟨h1, h2, h3, h4⟩ | ⟨h1, h2⟩
    · simp only at h1 h2 h3 h4
      rw [if_pos ⟨h1, h2⟩, h3, if_neg (by omega : ¬ 10 ≤ c.toNat - 48)]
      by_cases ha : 1844674407370955162 ≤ acc
      · rw [if_pos ha, if_pos ha]
      · rw [if_neg ha, if_neg ha]
        by_cases hb : M64 < acc * 10 + (c.toNat - 48)
        · rw [if_pos hb, if_pos (by omega)]
        · rw [if_neg hb, if_neg (by omega)]
          exact pu10_pu r _
    · simp only at h1 h2
      rw [if_neg h1, if_pos h2]
theorem strip_spec (s : List UInt8) : ∀ (n u l : Nat), n ≤ s.length → (stripL s n u l).1 ≤ n ∧ (∀ i, (stripL s n u l).1 ≤ i → i < n → s.getD i 0 ∈ ulC) ∧ ((stripL s n u l).1 = 0 ∨ s.getD ((stripL s n u l).1 - 1) 0 ∉ ulC) ∧
    (stripL s n u l).2.1 = u + ((s.take n).drop (stripL s n u l).1).countP (fun c => c = 117 ∨ c = 85) ∧ (stripL s n u l).2.2 = l + ((s.take n).drop (stripL s n u l).1).countP (fun c => c = 108 ∨ c = 76)
  | 0, u, l, _ => by simp [stripL]
  | n + 1, u, l, h => by
    have hsn : s.take (n + 1) = s.take n ++ [s.getD n 0] := by
      rw [List.take_add_one, List.getD_eq_getElem?_getD, List.getElem?_eq_getElem (by omega)]
      rfl
    have hlen : (s.take n).length = n := by rw [List.length_take]; omega
    by_cases h1 : s.getD n 0 = 117 ∨ s.getD n 0 = 85
    · have e : stripL s (n + 1) u l = stripL s n (u + 1) l := by simp only [stripL, h1, if_true]
      obtain ⟨p1, p2, p3, p4, p5⟩ := strip_spec s n (u + 1) l (by omega)
      rw [e]
      refine ⟨by omega, fun i hi hi2 => ?_, p3, ?_, ?_⟩
      · by_cases hin : i = n
        · subst hin
          rcases h1 with h1 | h1 <;> rw [h1] <;> decide
        · exact p2 i hi (by omega)
      · rw [hsn, List.drop_append_of_le_length (by omega), List.countP_append, p4]
        have : List.countP (fun c => decide (c = 117 ∨ c = 85)) [s.getD n 0] = 1 := by rcases h1 with h1 | h1 <;> rw [h1] <;> decide
        omega
      · rw [hsn, List.drop_append_of_le_length (by omega), List.countP_append, p5]
        have : List.countP (fun c => decide (c = 108 ∨ c = 76)) [s.getD n 0] = 0 := by rcases h1 with h1 | h1 <;> rw [h1] <;> decide
        omega
    · by_cases h2 : s.getD n 0 = 108 ∨ s.getD n 0 = 76
      · have e : stripL s (n + 1) u l = stripL s n u (l + 1) := by simp only [stripL, h1, if_false, h2, if_true]
        obtain ⟨p1, p2, p3, p4, p5⟩ := strip_spec s n u (l + 1) (by omega)
        rw [e]
        refine ⟨by omega, fun i hi hi2 => ?_, p3, ?_, ?_⟩
        · by_cases hin : i = n
          · subst hin
            rcases h2 with h2 | h2 <;> rw [h2] <;> decide
          · exact p2 i hi (by omega)
        · rw [hsn, List.drop_append_of_le_length (by omega), List.countP_append, p4]
          have : List.countP (fun c => decide (c = 117 ∨ c = 85)) [s.getD n 0] = 0 := by rcases h2 with h2 | h2 <;> rw [h2] <;> decide
          omega
        · rw [hsn, List.drop_append_of_le_length (by omega), List.countP_append, p5]
          have : List.countP (fun c => decide (c = 108 ∨ c = 76)) [s.getD n 0] = 1 := by rcases h2 with h2 | h2 <;> rw [h2] <;> decide
          omega
      · have e : stripL s (n + 1) u l = (n + 1, u, l) := by simp only [stripL, h1, if_false, h2]
        rw [e]
        have hd : (s.take (n + 1)).drop (n + 1) = [] := List.drop_eq_nil_of_le (by rw [List.length_take]; omega)
        refine ⟨Nat.le_refl _, fun i hi hi2 => absurd hi2 (by simp only at hi; omega), Or.inr ?_, ?_, ?_⟩
        · simp only [Nat.add_sub_cancel]
          intro hm
          simp only [ulC, List.mem_cons, List.not_mem_nil, or_false] at hm
          rcases hm with hm | hm | hm | hm
          · exact h1 (Or.inl hm)
          · exact h1 (Or.inr hm)
          · exact h2 (Or.inl hm)
          · exact h2 (Or.inr hm)
        · simp only [hd]; simp
        · simp only [hd]; simp
def cuN (t : List UInt8) : Nat := t.countP (fun c => c = 117 ∨ c = 85)
def clN (t : List UInt8) : Nat := t.countP (fun c => c = 108 ∨ c = 76)
theorem suf_1 : ∀ a ∈ ulC, sufOk [a] = decide (cuN [a] ≤ 1 ∧ clN [a] ≤ 1) := by decide +kernel
theorem suf_2 : ∀ a ∈ ulC, ∀ b ∈ ulC, sufOk [a, b] = decide (cuN [a, b] ≤ 1 ∧ clN [a, b] ≤ 1) := by decide +kernel
theorem cnt_sum : ∀ t : List UInt8, (∀ c ∈ t, c ∈ ulC) → cuN t + clN t = t.length
  | [], _ => rfl
  | c :: t, h => by
    have ih := cnt_sum t (fun x hx => h x (by simp [hx]))
    have hc := h c (by simp)
    unfold cuN clN at *
    rw [List.countP_cons, List.countP_cons, List.length_cons]
    simp only [ulC, List.mem_cons, List.not_mem_nil, or_false] at hc
    rcases hc with rfl | rfl | rfl | rfl
    · rw [if_pos (by decide), if_neg (by decide)]; omega
    · rw [if_pos (by decide), if_neg (by decide)]; omega
    · rw [if_neg (by decide), if_pos (by decide)]; omega
    · rw [if_neg (by decide), if_pos (by decide)]; omega
theorem suf_any (t : List UInt8) (h : ∀ c ∈ t, c ∈ ulC) : sufOk t = decide (cuN t ≤ 1 ∧ clN t ≤ 1) := by
  match t, h with
  | [], _ => decide
  | [a], h => exact suf_1 a (h a (by simp))
  | [a, b], h => exact suf_2 a (h a (by simp)) b (h b (by simp))
  | a :: b :: c :: r, h =>
    have hs := cnt_sum _ h
    simp only [List.length_cons] at hs
    have e1 : sufOk (a :: b :: c :: r) = false := by
      unfold sufOk
      simp
    rw [e1]
    symm
    simp only [decide_eq_false_iff_not]
    omega
theorem hpx (d : List UInt8) (b : UInt8) : Lib.hasPrefix d [48, b] = decide (1 < d.length ∧ d.getD 0 0 = 48 ∧ d.getD 1 0 = b) := by
  match d with
  | [] => simp [Lib.hasPrefix]
  | [x] => simp [Lib.hasPrefix, List.isPrefixOf]
  | x :: y :: r =>
    simp only [Lib.hasPrefix, List.isPrefixOf, Bool.and_true]
    rw [Bool.eq_iff_iff]
    simp only [Bool.and_eq_true, beq_iff_eq, decide_eq_true_eq, List.length_cons, List.getD_cons_zero, List.getD_cons_succ]
    constructor
    · rintro ⟨h1, h2⟩; exact ⟨by omega, h1.symm, h2.symm⟩
    · rintro ⟨_, h1, h2⟩; exact ⟨h1.symm, h2.symm⟩
theorem puL_ne (base cut M : Nat) (l : List UInt8) (h : l ≠ []) : puL base cut M l = puB base cut M 0 l := by unfold puL; rw [if_neg h]
theorem whole_eq (s : List UInt8) : wholeR s = wholeL s := by
  obtain ⟨h1, h2, h3, h4, h5⟩ := strip_spec s s.length 0 0 (Nat.le_refl _)
  unfold wholeR wholeL
  generalize (stripL s s.length 0 0).1 = k at *
  generalize (stripL s s.length 0 0).2.1 = u at *
  generalize (stripL s s.length 0 0).2.2 = l at *
  rw [List.take_length] at h4 h5
  have hmem : ∀ c ∈ s.drop k, c ∈ ulC := fun c hc => by
    obtain ⟨i, hi, he⟩ := List.mem_iff_getElem.1 hc
    rw [List.length_drop] at hi
    rw [List.getElem_drop] at he
    have := h2 (k + i) (by omega) (by omega)
    rw [List.getD_eq_getElem?_getD, List.getElem?_eq_getElem (by omega)] at this
    rw [← he]
    exact this
  have hall : (s.drop k).all (ulC.contains ·) = true := by
    rw [List.all_eq_true]
    intro c hc
    exact List.contains_iff_mem.2 (hmem c hc)
  have htl : ∀ c, (s.take k).getLast? = some c → c ∉ ulC := fun c hc => by
    by_cases hk : k = 0
    · subst hk; simp at hc
    · rcases h3 with h3 | h3
      · exact absurd h3 hk
      · rw [List.getLast?_eq_getElem?, List.length_take, Nat.min_eq_left h1, List.getElem?_take] at hc
        rw [if_pos (by omega)] at hc
        rw [List.getD_eq_getElem?_getD, hc] at h3
        exact h3
  have htr : Lib.trimRightS s ulC = s.take k := by
    have := trim_tail (s.take k) (s.drop k) hall htl
    rw [List.take_append_drop] at this
    exact this
  have hlen : (s.take k).length = k := by rw [List.length_take]; omega
  rw [htr, hlen, suf_any _ hmem]
  have eu : u = cuN (s.drop k) := by unfold cuN; omega
  have el : l = clN (s.drop k) := by unfold clN; omega
  rw [← eu, ← el]
  unfold wholeD
  by_cases hul : u ≤ 1 ∧ l ≤ 1
  · have hrt : decide (u ≤ 1 ∧ l ≤ 1) = true := by simp [hul]
    rw [hrt, if_neg (by decide : ¬ ((true : Bool) = false))]
    generalize s.take k = d at *
    subst hlen
    unfold baseR
    rw [hpx, hpx]
    by_cases h0 : 1 < d.length ∧ d.getD 0 0 = 48
    · rw [if_pos h0, if_pos h0]
      by_cases hx : d.getD 1 0 = 120 ∨ d.getD 1 0 = 88
      · rw [if_pos hx]
        have e : (if decide (1 < d.length ∧ d.getD 0 0 = 48 ∧ d.getD 1 0 = 120) = true then p16 (d.drop 2) else if decide (1 < d.length ∧ d.getD 0 0 = 48 ∧ d.getD 1 0 = 88) = true then p16 (d.drop 2) else p8 (d.drop 1)) = p16 (d.drop 2) := by
          rcases hx with hx | hx
          · rw [if_pos (by simp only [decide_eq_true_eq]; exact ⟨h0.1, h0.2, hx⟩)]
          · rw [if_neg (by simp only [decide_eq_true_eq]; intro h; rw [hx] at h; exact absurd h.2.2 (by decide)), if_pos (by simp only [decide_eq_true_eq]; exact ⟨h0.1, h0.2, hx⟩)]
        rw [e]
        simp only
        by_cases h2 : d.length ≤ 2
        · rw [if_pos (Or.inr (Or.inr h2)), List.drop_eq_nil_of_le h2]
          rfl
        · rw [if_neg (by omega), digR_pu 16 1152921504606846976 (by omega) (by decide)]
          unfold p16
          rw [puL_ne _ _ _ _ (by intro h; have := congrArg List.length h; simp at this; omega)]
      · rw [if_neg hx]
        have e : (if decide (1 < d.length ∧ d.getD 0 0 = 48 ∧ d.getD 1 0 = 120) = true then p16 (d.drop 2) else if decide (1 < d.length ∧ d.getD 0 0 = 48 ∧ d.getD 1 0 = 88) = true then p16 (d.drop 2) else p8 (d.drop 1)) = p8 (d.drop 1) := by
          rw [if_neg (by simp only [decide_eq_true_eq]; intro h; exact hx (Or.inl h.2.2)), if_neg (by simp only [decide_eq_true_eq]; intro h; exact hx (Or.inr h.2.2))]
        rw [e]
        simp only
        rw [if_neg (by omega), digR_pu 8 2305843009213693952 (by omega) (by decide)]
        unfold p8
        rw [puL_ne _ _ _ _ (by intro h; have := congrArg List.length h; simp at this; omega)]
    · have b1 : decide (1 < d.length ∧ d.getD 0 0 = 48 ∧ d.getD 1 0 = 120) = false := by simp only [decide_eq_false_iff_not]; exact fun h => h0 ⟨h.1, h.2.1⟩
      have b2 : decide (1 < d.length ∧ d.getD 0 0 = 48 ∧ d.getD 1 0 = 88) = false := by simp only [decide_eq_false_iff_not]; exact fun h => h0 ⟨h.1, h.2.1⟩
      simp only [b1, b2, if_neg h0, Bool.false_eq_true, if_false]
      simp only [List.drop_zero]
      by_cases hn : d = []
      · subst hn; rw [if_pos (Or.inr (Or.inr (by simp)))]; rfl
      · have : 0 < d.length := List.length_pos_iff.2 hn
        rw [if_neg (by omega), digR_pu 10 1844674407370955162 (by omega) (by decide)]
        unfold p10
        rw [if_neg hn, pu10_pu]
  · have hrf : decide (u ≤ 1 ∧ l ≤ 1) = false := by simp only [decide_eq_false_iff_not]; exact hul
    rw [hrf, if_pos (by omega), if_pos rfl]
/-- Digits in tens alone. -/
def decR : Nat → List UInt8 → Option Nat
  | acc, [] => some acc
  | acc, c :: r => if digitZ (c.toNat : Int) = false then none else decR (acc * 10 + (c.toNat - 48)) r
def flR (l : List UInt8) (p : Nat) : Option Nat := if l = [] ∨ 15 < l.length ∨ 15 < p then none else (decR 0 l).map fun n => fq n p
theorem digitZ_nat (c : UInt8) : digitZ (c.toNat : Int) = decide (48 ≤ c.toNat ∧ c.toNat ≤ 57) := by
  unfold digitZ
  rw [Bool.eq_iff_iff]
  simp only [Bool.and_eq_true, decide_eq_true_eq]
  omega
theorem dec_pu : ∀ (l : List UInt8) (acc : Nat), (acc + 1) * 10 ^ l.length ≤ 10 ^ 16 → decR acc l = okOf (Lib.parseUint10 acc l)
  | [], acc, _ => rfl
  | c :: r, acc, h => by
    simp only [decR, Lib.parseUint10, digitZ_nat]
    have hacc : acc + 1 ≤ 10 ^ 16 := Nat.le_trans (Nat.le_mul_of_pos_right _ (Nat.pow_pos (by decide))) h
    have h16 : (10 : Nat) ^ 16 = 10000000000000000 := by decide
    by_cases hc : 48 ≤ c.toNat ∧ c.toNat ≤ 57
    · rw [if_pos hc, if_neg (by simp [hc])]
      rw [List.length_cons, Nat.pow_succ] at h
      have h10 : (acc + 1) * 10 * 10 ^ r.length ≤ 10 ^ 16 := by rw [Nat.mul_assoc, Nat.mul_comm 10]; exact h
      have hacc2 : (acc + 1) * 10 ≤ 10 ^ 16 := Nat.le_trans (Nat.le_mul_of_pos_right _ (Nat.pow_pos (by decide))) h10
      rw [if_neg (by omega), if_neg (by omega)]
      refine dec_pu r _ (Nat.le_trans (Nat.mul_le_mul_right _ ?_) h10)
      omega
    · rw [if_neg hc, if_pos (by simp only [decide_eq_false_iff_not]; exact hc)]
      rfl
theorem fl_eq (l : List UInt8) (p : Nat) : flR l p = floatL l p := by
  unfold flR floatL
  by_cases h : 15 < l.length ∨ 15 < p
  · rw [if_pos (Or.inr h), if_pos h]
  · rw [if_neg h]
    by_cases hn : l = []
    · subst hn; rw [if_pos (Or.inl rfl)]; rfl
    · rw [if_neg (fun e => e.elim hn h)]
      unfold p10
      rw [if_neg hn, dec_pu l 0 (by
        have : 10 ^ l.length ≤ 10 ^ 15 := Nat.pow_le_pow_right (by decide) (by omega)
        have h15 : (10 : Nat) ^ 15 ≤ 10 ^ 16 := by decide
        omega)]
/-- The first point from i on. -/
def dotR (s : List UInt8) : Nat → Nat → Option Nat
  | 0, _ => none
  | f + 1, i => if i + 1 < s.length then (if s.getD i 0 = 46 then flR (s.take i ++ s.drop (i + 1)) (s.length - i - 1) else dotR s f (i + 1)) else none
theorem memD (l : List UInt8) (i : Nat) (h : i < l.length) : l.getD i 0 ∈ l := by
  rw [List.getD_eq_getElem?_getD, List.getElem?_eq_getElem h]
  exact List.getElem_mem h
theorem dot_none (s : List UInt8) (h : (46 : UInt8) ∉ s) : ∀ f i, dotR s f i = none
  | 0, _ => rfl
  | f + 1, i => by
    unfold dotR
    split
    · rw [if_neg (fun e => h (by rw [← e]; exact memD s i (by omega)))]
      exact dot_none s h f (i + 1)
    · rfl
theorem dot_some (A B : List UInt8) (hA : (46 : UInt8) ∉ A) : ∀ f i, i ≤ A.length → A.length < i + f → dotR (A ++ 46 :: B) f i = if B = [] then none else flR (A ++ B) B.length
  | 0, i, h1, h2 => absurd h2 (by omega)
  | f + 1, i, h1, h2 => by
    unfold dotR
    rw [List.length_append, List.length_cons]
    by_cases hi : i = A.length
    · subst hi
      have e1 : (A ++ 46 :: B).getD A.length 0 = 46 := by rw [List.getD_eq_getElem?_getD, List.getElem?_append_right (Nat.le_refl _)]; simp
      have e2 : (A ++ 46 :: B).take A.length = A := by simp
      have e3 : (A ++ 46 :: B).drop (A.length + 1) = B := by rw [List.drop_append]; simp
      rw [e1, e2, e3]
      by_cases hB : B = []
      · subst hB
        simp
      · have : 0 < B.length := List.length_pos_iff.2 hB
        rw [if_neg hB, if_pos (by omega), if_pos rfl]
        congr 1
        omega
    · have e1 : (A ++ 46 :: B).getD i 0 ≠ 46 := by
        rw [List.getD_eq_getElem?_getD, List.getElem?_append_left (by omega), List.getElem?_eq_getElem (by omega)]
        intro e
        exact hA (by rw [← e]; exact List.getElem_mem (by omega))
      rw [if_pos (by omega), if_neg e1]
      exact dot_some A B hA f (i + 1) (by omega) (by omega)
theorem dot_eq (s : List UInt8) (h : s.getD 0 0 ≠ 46) : dotR s s.length 1 = fracL s := by
  unfold fracL
  rw [cut_eq]
  cases hc : (cutR 46 s).2.2 with
  | false =>
    rw [if_pos rfl]
    exact dot_none s (cutR_miss 46 s hc).2.2 _ _
  | true =>
    rw [if_neg (by decide)]
    have hs := cutR_hit 46 s hc
    have ho := cutR_out 46 s
    generalize (cutR 46 s).1 = A at *
    generalize (cutR 46 s).2.1 = B at *
    subst hs
    have hA : A ≠ [] := fun e => by subst e; exact h (by simp)
    have : 0 < A.length := List.length_pos_iff.2 hA
    rw [dot_some A B ho _ 1 (by omega) (by simp; omega), fl_eq]
end Go.Proofs.YtcmfmfgedhfaeaaGreatDoor
/- Escapes and what stands in quotes as the reference reads them, plainly. -/
namespace Go.Proofs.YtcmfmfgedhfaeaaGreatDoor
set_option linter.unusedSimpArgs false
set_option linter.unusedVariables false

/-- All bytes are runes. -/
def Val (x : List UInt8) : Prop := ∃ l c, brk x l c = none
theorem val_dec {x : List UInt8} (h : Val x) (hx : x ≠ []) : Lib.decodeL x ≠ (65533, 1) ∧ Val (x.drop (Lib.decodeL x).2) := by
  obtain ⟨l, c, h⟩ := h
  rw [brk_cons x hx] at h
  split at h
  · cases h
  · rename_i hn; exact ⟨hn, _, _, h⟩
theorem val_lo {c : UInt8} {r : List UInt8} (h : Val (c :: r)) (hc : c.toNat < 128) : Val r := by
  have := (val_dec h (by simp)).2
  rw [decL_lo c r hc] at this
  simpa using this
theorem p16b2 (a b : UInt8) : p16b [a, b] = if hexZ (a.toNat : Int) < 0 ∨ hexZ (b.toNat : Int) < 0 then none else some ((hexZ (a.toNat : Int)).toNat * 16 + (hexZ (b.toNat : Int)).toNat) := by
  unfold p16b puL
  rw [if_neg (by simp)]
  simp only [puB]
  rcases hexv a with ⟨h1, h2⟩ | ⟨h1, h2, h3⟩
  · rw [if_pos (by omega), if_pos (Or.inl h1)]; rfl
  · rw [if_neg (by omega), if_neg (by omega), if_neg (by omega)]
    rcases hexv b with ⟨k1, k2⟩ | ⟨k1, k2, k3⟩
    · rw [if_pos (by omega), if_pos (Or.inr k1)]; rfl
    · rw [if_neg (by omega), if_neg (by omega), if_neg (by omega), if_neg (fun e => e.elim h1 k1), h3, k3]
      simp [okOf]
theorem escX2 (a b : UInt8) (r : List UInt8) : escX (a :: b :: r) = if hexZ (a.toNat : Int) < 0 ∨ hexZ (b.toNat : Int) < 0 then (0, 0) else ((hexZ (a.toNat : Int)).toNat * 16 + (hexZ (b.toNat : Int)).toNat, 3) := by
  unfold escX
  rw [if_neg (by simp)]
  simp only [List.take_succ_cons, List.take_zero]
  rw [p16b2]
  split <;> rfl
theorem hexd_fin : ∀ c : Fin 256, ¬ hexZ (c.val : Int) < 0 → c.val < 128 ∧ c.val ≠ 10 ∧ c.val ≠ 39 ∧ c.val ≠ 34 ∧ c.val ≠ 92 ∧ (hexZ (c.val : Int)).toNat < 16 := by decide +kernel
theorem hexd (c : UInt8) (h : ¬ hexZ (c.toNat : Int) < 0) : c.toNat < 128 ∧ c.toNat ≠ 10 ∧ c.toNat ≠ 39 ∧ c.toNat ≠ 34 ∧ c.toNat ≠ 92 ∧ (hexZ (c.toNat : Int)).toNat < 16 := hexd_fin ⟨c.toNat, c.toNat_lt⟩ h
theorem quo_step (q : Int) (e : Bool) (c : UInt8) (r : List UInt8) (h10 : c.toNat ≠ 10) (hq : e = true ∨ (c.toNat : Int) ≠ q) (h92 : e = true ∨ c.toNat ≠ 92) : quoL q e (c :: r) = 1 + quoL q false r := by
  have b10 : ((c.toNat : Int) == 10) = false := by simp only [beq_eq_false_iff_ne]; omega
  simp only [quoL, b10, Bool.false_or]
  cases e with
  | true => simp
  | false =>
    have bq : ((c.toNat : Int) == q) = false := by
      simp only [beq_eq_false_iff_ne]
      exact hq.resolve_left (by decide)
    have b92 : ((c.toNat : Int) == 92) = false := by
      simp only [beq_eq_false_iff_ne]
      have := h92.resolve_left (by decide)
      omega
    simp [bq, b92]
structure EscS (r : List UInt8) (k b : Nat) : Prop where
  kk : k = 1 ∨ k = 3
  le : k ≤ r.length
  val : Val r → Val (r.drop k)
  quo : ∀ q : Int, q = 39 ∨ q = 34 → quoL q true r = k + quoL q false (r.drop k)
  pre : ∀ z : List UInt8, z.take k = r.take k → escL z = (b, k)
  byte : b < 256
theorem esc_one (c : UInt8) (r : List UInt8) (b : Nat) (hc : c.toNat < 128) (h10 : c.toNat ≠ 10) (hb : b < 256) (he : ∀ r, escL (c :: r) = (b, 1)) : EscS (c :: r) 1 b where
  kk := Or.inl rfl
  le := by simp
  val := fun h => by simpa using val_lo h hc
  quo := fun q hq => by simpa using quo_step q true c r h10 (Or.inl rfl) (Or.inl rfl)
  pre := fun z hz => by
    cases z with
    | nil => simp at hz
    | cons a z => simp at hz; subst hz; exact he z
  byte := hb
theorem esc_spec (r : List UInt8) (h : (escL r).2 ≠ 0) : EscS r (escL r).2 (escL r).1 := by
  match r, h with
  | [], h => exact absurd rfl h
  | c :: r, h =>
    by_cases h1 : c.toNat = 110
    · have e : ∀ r, escL (c :: r) = (10, 1) := fun r => by simp [escL, h1]
      rw [e]; exact esc_one c r 10 (by omega) (by omega) (by omega) e
    by_cases h2 : c.toNat = 116
    · have e : ∀ r, escL (c :: r) = (9, 1) := fun r => by simp [escL, h1, h2]
      rw [e]; exact esc_one c r 9 (by omega) (by omega) (by omega) e
    by_cases h3 : c.toNat = 114
    · have e : ∀ r, escL (c :: r) = (13, 1) := fun r => by simp [escL, h1, h2, h3]
      rw [e]; exact esc_one c r 13 (by omega) (by omega) (by omega) e
    by_cases h4 : c.toNat = 48
    · have e : ∀ r, escL (c :: r) = (0, 1) := fun r => by simp [escL, h1, h2, h3, h4]
      rw [e]; exact esc_one c r 0 (by omega) (by omega) (by omega) e
    by_cases h5 : c.toNat = 92
    · have e : ∀ r, escL (c :: r) = (c.toNat, 1) := fun r => by simp [escL, h1, h2, h3, h4, h5]
      rw [e]; exact esc_one c r c.toNat (by omega) (by omega) (by omega) e
    by_cases h6 : c.toNat = 39
    · have e : ∀ r, escL (c :: r) = (c.toNat, 1) := fun r => by simp [escL, h1, h2, h3, h4, h5, h6]
      rw [e]; exact esc_one c r c.toNat (by omega) (by omega) (by omega) e
    by_cases h7 : c.toNat = 34
    · have e : ∀ r, escL (c :: r) = (c.toNat, 1) := fun r => by simp [escL, h1, h2, h3, h4, h5, h6, h7]
      rw [e]; exact esc_one c r c.toNat (by omega) (by omega) (by omega) e
    by_cases h8 : c.toNat = 120
    · have e : ∀ r, escL (c :: r) = escX r := fun r => by simp [escL, h1, h2, h3, h4, h5, h6, h7, h8]
      rw [e] at h ⊢
      match r, h with
      | [], h => exact absurd rfl h
      | [a], h => exact absurd rfl h
      | a :: b :: r, h =>
        rw [escX2] at h ⊢
        by_cases hx : hexZ (a.toNat : Int) < 0 ∨ hexZ (b.toNat : Int) < 0
        · rw [if_pos hx] at h; exact absurd rfl h
        · rw [if_neg hx]
          have ha := hexd a (fun e => hx (Or.inl e))
          have hb := hexd b (fun e => hx (Or.inr e))
          refine ⟨Or.inr rfl, by simp, fun hv => ?_, fun q hq => ?_, fun z hz => ?_, by simp only; omega⟩
          · simpa using val_lo (val_lo (val_lo hv (by omega)) ha.1) hb.1
          · rw [quo_step q true c _ (by omega) (Or.inl rfl) (Or.inl rfl), quo_step q false a _ ha.2.1 (Or.inr (by omega)) (Or.inr ha.2.2.2.2.1), quo_step q false b _ hb.2.1 (Or.inr (by omega)) (Or.inr hb.2.2.2.2.1)]
            simp only [List.drop_succ_cons, List.drop_zero]
            omega
          · match z, hz with
            | [], hz => simp at hz
            | [x], hz => simp at hz
            | [x, y], hz => simp at hz
            | x :: y :: w :: z, hz =>
              simp at hz
              obtain ⟨rfl, rfl, rfl⟩ := hz
              rw [e, escX2, if_neg hx]
    · exfalso
      apply h
      simp [escL, h1, h2, h3, h4, h5, h6, h7, h8]
/-- The loop of what stands in quotes: what is left; the bytes, the runes, the last rune. -/
def qR (q : UInt8) : Nat → List UInt8 → List UInt8 → Nat → Nat → Option (List UInt8 × List UInt8 × Nat × Nat)
  | 0, x, d, n, v => some (x, d, n, v)
  | _ + 1, [], d, n, v => some ([], d, n, v)
  | f + 1, c :: r, d, n, v =>
    if c = q ∨ c = 10 then some (c :: r, d, n, v)
    else if c = 92 then (if (escL r).2 = 0 then none else qR q f (r.drop (escL r).2) (d ++ [UInt8.ofNat (escL r).1]) (n + 1) (escL r).1)
    else qR q f ((c :: r).drop (Lib.decodeL (c :: r)).2) (d ++ (c :: r).take (Lib.decodeL (c :: r)).2) (n + 1) (Lib.decodeL (c :: r)).1
/-- .. of a text without the quotes. -/
def uR : Nat → List UInt8 → List UInt8 → Nat → Nat → Option (List UInt8 × Nat × Nat)
  | 0, _, d, n, v => some (d, n, v)
  | _ + 1, [], d, n, v => some (d, n, v)
  | f + 1, c :: r, d, n, v =>
    if c = 92 then (if (escL r).2 = 0 then none else uR f (r.drop (escL r).2) (d ++ [UInt8.ofNat (escL r).1]) (n + 1) (escL r).1)
    else uR f ((c :: r).drop (Lib.decodeL (c :: r)).2) (d ++ (c :: r).take (Lib.decodeL (c :: r)).2) (n + 1) (Lib.decodeL (c :: r)).1
theorem u_nat (c : UInt8) (k : Nat) (hk : k < 256) : c = UInt8.ofNat k ↔ c.toNat = k := by
  constructor
  · intro e; rw [e]; simp; omega
  · intro e; rw [← e]; simp
/-- A rune's bytes: of more than one all are great. -/
theorem rune_bytes (c : UInt8) (r : List UInt8) : (c.toNat < 128 ∧ Lib.decodeL (c :: r) = (c.toNat, 1)) ∨ (128 ≤ c.toNat ∧ ∀ j, j < (Lib.decodeL (c :: r)).2 → 128 ≤ ((c :: r).getD j 0).toNat) := by
  by_cases hc : c.toNat < 128
  · exact Or.inl ⟨hc, decL_lo c r hc⟩
  · right
    refine ⟨by omega, fun j hj => ?_⟩
    have hd := dec_hi ⟨(c :: r).toArray⟩ 0 (by rw [mk_size]; simp) (by simpa using hc)
    have := hd.2.2.2 j (Nat.zero_le _) (by rw [Nat.zero_add]; exact hj)
    rw [mk_list] at this
    exact this
theorem q_rune (q : UInt8) (hq : q = 39 ∨ q = 34) (c : UInt8) (r : List UInt8) (hv : Lib.decodeL (c :: r) ≠ (65533, 1)) (h1 : c ≠ q) (h2 : c ≠ 10) (h3 : c ≠ 92) :
    quoL (q.toNat : Int) false (c :: r) = (Lib.decodeL (c :: r)).2 + quoL (q.toNat : Int) false ((c :: r).drop (Lib.decodeL (c :: r)).2) := by
  have n10 : c.toNat ≠ 10 := fun e => h2 ((u_nat c 10 (by decide)).2 e)
  have n92 : c.toNat ≠ 92 := fun e => h3 ((u_nat c 92 (by decide)).2 e)
  have nq : (c.toNat : Int) ≠ (q.toNat : Int) := fun e => h1 (UInt8.toNat_inj.1 (by omega))
  rcases rune_bytes c r with ⟨hc, hd⟩ | ⟨hc, hd⟩
  · rw [hd, quo_step _ _ _ _ n10 (Or.inr nq) (Or.inr n92)]
    rfl
  · have hw := decL_w (c :: r) (by simp)
    have hq2 : (q.toNat : Int) < 128 := by rcases hq with rfl | rfl <;> decide
    have := quoL_hi (q.toNat : Int) hq2 (c :: r) (Lib.decodeL (c :: r)).2 0 false hw.1 (by omega) (fun j _ hj => hd j (by omega))
    simpa using this
/-- The two ways to the closing quote. -/
theorem q_good (q : UInt8) (hq : q = 39 ∨ q = 34) : ∀ (f : Nat) (x : List UInt8), x.length ≤ f → Val x → ∀ d n v,
    (quoL (q.toNat : Int) false x < x.length ∧ x.getD (quoL (q.toNat : Int) false x) 0 = q → ∀ g, quoL (q.toNat : Int) false x ≤ g → qR q f x d n v = (uR g (x.take (quoL (q.toNat : Int) false x)) d n v).map fun t => (x.drop (quoL (q.toNat : Int) false x), t)) ∧
    (¬ (quoL (q.toNat : Int) false x < x.length ∧ x.getD (quoL (q.toNat : Int) false x) 0 = q) → qR q f x d n v = none ∨ ∃ x' t, qR q f x d n v = some (x', t) ∧ x'.head? ≠ some q)
  | 0, x, hx, hV, d, n, v => by
    have : x = [] := List.eq_nil_of_length_eq_zero (by omega)
    subst this
    exact ⟨fun h => absurd h.1 (by simp), fun _ => Or.inr ⟨[], (d, n, v), rfl, by simp⟩⟩
  | f + 1, [], hx, hV, d, n, v => ⟨fun h => absurd h.1 (by simp), fun _ => Or.inr ⟨[], (d, n, v), rfl, by simp⟩⟩
  | f + 1, c :: r, hx, hV, d, n, v => by
    rw [List.length_cons] at hx
    by_cases h1 : c = q
    · subst h1
      have e0 : quoL (c.toNat : Int) false (c :: r) = 0 := by simp [quoL]
      rw [e0]
      have eq1 : qR c (f + 1) (c :: r) d n v = some (c :: r, d, n, v) := by simp [qR]
      refine ⟨fun _ g _ => ?_, fun h => absurd ⟨by simp, by simp⟩ h⟩
      rw [eq1]
      cases g <;> simp [uR]
    by_cases h2 : c = 10
    · subst h2
      have e0 : quoL (q.toNat : Int) false ((10 : UInt8) :: r) = 0 := by simp [quoL]
      rw [e0]
      have eq1 : qR q (f + 1) (10 :: r) d n v = some (10 :: r, d, n, v) := by simp [qR]
      refine ⟨fun h => absurd h.2 (by simp; exact h1), fun _ => Or.inr ⟨_, _, eq1, by simp; exact h1⟩⟩
    by_cases h3 : c = 92
    · subst h3
      have hqq : (q.toNat : Int) = 39 ∨ (q.toNat : Int) = 34 := by rcases hq with rfl | rfl; exact Or.inl rfl; exact Or.inr rfl
      have e0 : quoL (q.toNat : Int) false ((92 : UInt8) :: r) = 1 + quoL (q.toNat : Int) true r := by
        rcases hq with rfl | rfl <;> simp [quoL]
      by_cases hk : (escL r).2 = 0
      · have eq1 : qR q (f + 1) (92 :: r) d n v = none := by simp [qR, h1, hk]
        refine ⟨fun _ g hg => ?_, fun _ => Or.inl eq1⟩
        rw [eq1]
        rw [e0] at hg ⊢
        obtain ⟨g, rfl⟩ : ∃ g', g = g' + 1 := ⟨g - 1, by omega⟩
        rw [Nat.add_comm 1, List.take_succ_cons]
        have hz : (escL (r.take (quoL (q.toNat : Int) true r))).2 = 0 := by
          apply Classical.byContradiction
          intro hn
          have hs := esc_spec _ hn
          have hle := hs.le
          have := hs.pre r (by rw [List.take_take]; congr 1; rw [List.length_take] at hle; omega)
          rw [this] at hk
          exact hn hk
        simp [uR, hz]
      · have hs := esc_spec r hk
        obtain ⟨hkk, hle, hval, hquo, hpre, hby⟩ := hs
        generalize (escL r).2 = k at *
        have hVr : Val (r.drop k) := hval (val_lo hV (by decide))
        have ih := q_good q hq f (r.drop k) (by rw [List.length_drop]; omega) hVr (d ++ [UInt8.ofNat (escL r).1]) (n + 1) (escL r).1
        have e1 : quoL (q.toNat : Int) false ((92 : UInt8) :: r) = 1 + (k + quoL (q.toNat : Int) false (r.drop k)) := by rw [e0, hquo _ hqq]
        have eq1 : qR q (f + 1) (92 :: r) d n v = qR q f (r.drop k) (d ++ [UInt8.ofNat (escL r).1]) (n + 1) (escL r).1 := by
          have := hpre r rfl
          have hkn : ¬ (escL r).2 = 0 := by rw [this]; simp only; omega
          have hk2 : (escL r).2 = k := by rw [this]
          simp only [qR, h1, false_or, if_false, hkn, hk2]
          simp
          intro h0
          omega
        have hgd : ((92 : UInt8) :: r).getD (1 + (k + quoL (q.toNat : Int) false (r.drop k))) 0 = (r.drop k).getD (quoL (q.toNat : Int) false (r.drop k)) 0 := by
          rw [Nat.add_comm 1, List.getD_cons_succ, List.getD_eq_getElem?_getD, List.getD_eq_getElem?_getD, List.getElem?_drop]
        rw [e1, eq1, hgd, List.length_cons]
        rw [List.length_drop] at ih
        generalize quoL (q.toNat : Int) false (r.drop k) = e at *
        refine ⟨fun hc g hg => ?_, fun hc => ih.2 (fun h => hc ⟨by omega, h.2⟩)⟩
        obtain ⟨g, rfl⟩ : ∃ g', g = g' + 1 := ⟨g - 1, by omega⟩
        rw [ih.1 ⟨by omega, hc.2⟩ g (by omega), Nat.add_comm 1, List.take_succ_cons, List.drop_succ_cons]
        have hp := hpre (r.take (k + e)) (by rw [List.take_take]; congr 1; omega)
        have hkn : ¬ (escL (r.take (k + e))).2 = 0 := by rw [hp]; simp only; omega
        have hr : escL r = ((escL r).1, k) := hpre r rfl
        have hd : (r.take (k + e)).drop k = (r.drop k).take e := by rw [List.drop_take]; congr 1; omega
        simp only [uR, if_true, hkn, if_false]
        rw [hp]
        simp only [hd, List.drop_drop]
    · have hdv := val_dec hV (by simp)
      have hw := decL_w (c :: r) (by simp)
      have e0 := q_rune q hq c r hdv.1 h1 h2 h3
      have ih := q_good q hq f ((c :: r).drop (Lib.decodeL (c :: r)).2) (by rw [List.length_drop, List.length_cons]; omega) hdv.2 (d ++ (c :: r).take (Lib.decodeL (c :: r)).2) (n + 1) (Lib.decodeL (c :: r)).1
      have eq1 : qR q (f + 1) (c :: r) d n v = qR q f ((c :: r).drop (Lib.decodeL (c :: r)).2) (d ++ (c :: r).take (Lib.decodeL (c :: r)).2) (n + 1) (Lib.decodeL (c :: r)).1 := by
        simp only [qR, h1, h2, h3, or_self, if_false]
      have hX : ∃ X, X = c :: r := ⟨_, rfl⟩
      obtain ⟨X, hX⟩ := hX
      have hune : ∀ m, (Lib.decodeL X).2 ≤ m → m ≤ X.length → ∀ g d n v, uR (g + 1) (X.take m) d n v = uR g ((X.drop (Lib.decodeL X).2).take (m - (Lib.decodeL X).2)) (d ++ X.take (Lib.decodeL X).2) (n + 1) (Lib.decodeL X).1 := fun m hm hm2 g d n v => by
        have hz := decL_pre X (X.take m) (by rw [hX]; exact hdv.1) (by rw [List.length_take]; omega) (fun i hi => by rw [List.getD_eq_getElem?_getD, List.getD_eq_getElem?_getD, List.getElem?_take, if_pos (by omega)])
        have hc : ∃ t, X.take m = c :: t := by
          rw [hX] at hm ⊢
          obtain ⟨m, rfl⟩ : ∃ m', m = m' + 1 := ⟨m - 1, by omega⟩
          exact ⟨_, List.take_succ_cons⟩
        obtain ⟨t, ht⟩ := hc
        rw [ht]
        simp only [uR, h3, if_false]
        rw [← ht, hz, List.drop_take, List.take_take, Nat.min_eq_left hm]
      rw [← hX] at e0 ih eq1 hw ⊢
      rw [eq1, e0]
      rw [List.length_drop] at ih
      generalize hwd : (Lib.decodeL X).2 = wd at *
      have hgd : X.getD (wd + quoL (q.toNat : Int) false (X.drop wd)) 0 = (X.drop wd).getD (quoL (q.toNat : Int) false (X.drop wd)) 0 := by
        rw [List.getD_eq_getElem?_getD, List.getD_eq_getElem?_getD, List.getElem?_drop]
      rw [hgd]
      generalize quoL (q.toNat : Int) false (X.drop wd) = e at *
      refine ⟨fun hc g hg => ?_, fun hc => ih.2 (fun h => hc ⟨by omega, h.2⟩)⟩
      obtain ⟨g, rfl⟩ : ∃ g', g = g' + 1 := ⟨g - 1, by omega⟩
      rw [ih.1 ⟨by omega, hc.2⟩ g (by omega), hune (wd + e) (by omega) (by omega), List.drop_drop, Nat.add_sub_cancel_left]
end Go.Proofs.YtcmfmfgedhfaeaaGreatDoor
/- What stands in quotes, and the tokens one behind the other, as the reference reads them, plainly. -/
namespace Go.Proofs.YtcmfmfgedhfaeaaGreatDoor
set_option linter.unusedSimpArgs false
set_option linter.unusedVariables false

theorem bytesL_cons (f : Nat) (c : UInt8) (r : List UInt8) (h : c ≠ 92) : bytesL (f + 1) (c :: r) = (bytesL (f + 1) r).map (c :: ·) := by
  simp only [bytesL, cut_eq, cutR, if_neg h]
  by_cases h1 : (cutR 92 r).2.2 = false
  · rw [if_pos h1, if_pos h1]; rfl
  · rw [if_neg h1, if_neg h1]
    by_cases h2 : (escL (cutR 92 r).2.1).2 = 0
    · rw [if_pos h2, if_pos h2]; rfl
    · rw [if_neg h2, if_neg h2, Option.map_map]; rfl
theorem bytesL_run (f : Nat) (r : List UInt8) : ∀ y : List UInt8, (92 : UInt8) ∉ y → bytesL (f + 1) (y ++ r) = (bytesL (f + 1) r).map (y ++ ·)
  | [], _ => by simp
  | c :: y, h => by
    have h1 : c ≠ 92 := fun e => h (by simp [e])
    have h2 : (92 : UInt8) ∉ y := fun e => h (by simp [e])
    rw [List.cons_append, bytesL_cons f c _ h1, bytesL_run f r y h2, Option.map_map]
    rfl
theorem bytesL_esc (f : Nat) (r : List UInt8) : bytesL (f + 1) (92 :: r) = if (escL r).2 = 0 then none else (bytesL f (r.drop (escL r).2)).map (UInt8.ofNat (escL r).1 :: ·) := by
  simp only [bytesL, cut_eq, cutR, if_true]
  simp
theorem bytesL_nil (f : Nat) : bytesL (f + 1) [] = some [] := by
  simp [bytesL, cut_eq, cutR]
theorem rune_no92 (c : UInt8) (r : List UInt8) (h : c ≠ 92) : (92 : UInt8) ∉ (c :: r).take (Lib.decodeL (c :: r)).2 := fun hm => by
  rcases rune_bytes c r with ⟨hc, hd⟩ | ⟨hc, hd⟩
  · rw [hd] at hm
    simp at hm
    exact h hm.symm
  · obtain ⟨i, hi, he⟩ := List.mem_iff_getElem.1 hm
    rw [List.length_take] at hi
    have := hd i (by omega)
    rw [List.getElem_take] at he
    rw [List.getD_eq_getElem?_getD, List.getElem?_eq_getElem (by omega), he] at this
    exact absurd this (by decide)
theorem u_bytes : ∀ (g : Nat) (u : List UInt8), u.length ≤ g → ∀ f, u.length + 1 ≤ f → ∀ d n v, (uR g u d n v).map (fun t => t.1) = (bytesL f u).map (d ++ ·)
  | 0, u, h, f, hf, d, n, v => by
    have : u = [] := List.eq_nil_of_length_eq_zero (by omega)
    subst this
    obtain ⟨f, rfl⟩ : ∃ f', f = f' + 1 := ⟨f - 1, by omega⟩
    rw [bytesL_nil]; simp [uR]
  | g + 1, [], h, f, hf, d, n, v => by
    obtain ⟨f, rfl⟩ : ∃ f', f = f' + 1 := ⟨f - 1, by omega⟩
    rw [bytesL_nil]; simp [uR]
  | g + 1, c :: r, h, f, hf, d, n, v => by
    rw [List.length_cons] at h hf
    obtain ⟨f, rfl⟩ : ∃ f', f = f' + 1 := ⟨f - 1, by omega⟩
    by_cases hc : c = 92
    · subst hc
      rw [bytesL_esc]
      by_cases hk : (escL r).2 = 0
      · simp [uR, hk]
      · have hs := (esc_spec r hk).le
        have hkk := (esc_spec r hk).kk
        simp only [uR, if_true, if_neg hk]
        rw [u_bytes g (r.drop (escL r).2) (by rw [List.length_drop]; omega) f (by rw [List.length_drop]; omega), Option.map_map]
        congr 1
        funext y
        simp
    · have hw := decL_w (c :: r) (by simp)
      simp only [uR, if_neg hc]
      have e : (c :: r) = (c :: r).take (Lib.decodeL (c :: r)).2 ++ (c :: r).drop (Lib.decodeL (c :: r)).2 := (List.take_append_drop _ _).symm
      have e2 : bytesL (f + 1) (c :: r) = (bytesL (f + 1) ((c :: r).drop (Lib.decodeL (c :: r)).2)).map ((c :: r).take (Lib.decodeL (c :: r)).2 ++ ·) := by
        have := bytesL_run f ((c :: r).drop (Lib.decodeL (c :: r)).2) _ (rune_no92 c r hc)
        rw [← e] at this
        exact this
      rw [e2, u_bytes g ((c :: r).drop (Lib.decodeL (c :: r)).2) (by rw [List.length_drop, List.length_cons]; omega) (f + 1) (by rw [List.length_drop, List.length_cons]; omega), Option.map_map]
      congr 1
      funext y
      simp
theorem u_ge : ∀ (g : Nat) (u d : List UInt8) (n v : Nat) (t : List UInt8 × Nat × Nat), uR g u d n v = some t → n ≤ t.2.1
  | 0, u, d, n, v, t, h => by simp only [uR, Option.some.injEq] at h; subst h; exact Nat.le_refl _
  | g + 1, [], d, n, v, t, h => by simp only [uR, Option.some.injEq] at h; subst h; exact Nat.le_refl _
  | g + 1, c :: r, d, n, v, t, h => by
    simp only [uR] at h
    split at h
    · split at h
      · cases h
      · have := u_ge g _ _ _ _ t h; omega
    · have := u_ge g _ _ _ _ t h; omega
def oneV : Option (List UInt8 × Nat × Nat) → Option Nat
  | none => none
  | some t => if t.2.1 = 1 then some t.2.2 else none
theorem u_more (g : Nat) (u d : List UInt8) (v : Nat) (hu : u ≠ []) (hg : u.length ≤ g) : oneV (uR g u d 1 v) = none := by
  cases u with
  | nil => exact absurd rfl hu
  | cons c r =>
    obtain ⟨g, rfl⟩ : ∃ g', g = g' + 1 := ⟨g - 1, by rw [List.length_cons] at hg; omega⟩
    cases h : uR (g + 1) (c :: r) d 1 v with
    | none => rfl
    | some t =>
      have : 2 ≤ t.2.1 := by
        simp only [uR] at h
        split at h
        · split at h
          · cases h
          · exact u_ge g _ _ _ _ t h
        · exact u_ge g _ _ _ _ t h
      show (if t.2.1 = 1 then some t.2.2 else none) = none
      rw [if_neg (by omega)]
theorem u_end (g : Nat) (d : List UInt8) (n v : Nat) : uR g [] d n v = some (d, n, v) := by cases g <;> rfl
theorem u_only (g : Nat) (u : List UInt8) (hg : u.length ≤ g) : onlyL u = oneV (uR g u [] 0 0) := by
  cases u with
  | nil => rw [u_end]; rfl
  | cons c r =>
    rw [List.length_cons] at hg
    obtain ⟨g, rfl⟩ : ∃ g', g = g' + 1 := ⟨g - 1, by omega⟩
    by_cases hc : c = 92
    · subst hc
      have hp : Lib.hasPrefix ((92 : UInt8) :: r) [92] = true := by simp [Lib.hasPrefix]
      have ht : Lib.trimPrefix ((92 : UInt8) :: r) [92] = r := by unfold Lib.trimPrefix; rw [if_pos hp]; rfl
      unfold onlyL
      rw [if_pos hp, ht]
      by_cases hk : (escL r).2 = 0
      · rw [if_neg (by omega)]
        simp [uR, hk, oneV]
      · have hs := (esc_spec r hk).le
        simp only [uR, if_true, if_neg hk]
        by_cases hr : (escL r).2 = r.length
        · rw [if_pos ⟨by omega, hr⟩, List.drop_eq_nil_of_le (by omega), u_end]; simp [oneV]
        · rw [if_neg (fun e => hr e.2), u_more g _ _ _ (by intro e; have := congrArg List.length e; rw [List.length_drop, List.length_nil] at this; omega) (by rw [List.length_drop]; omega)]
    · have hp : Lib.hasPrefix (c :: r) [92] = false := by
        simp only [Lib.hasPrefix, List.isPrefixOf, Bool.and_true, beq_eq_false_iff_ne]
        exact fun e => hc e.symm
      have hw := decL_w (c :: r) (by simp)
      unfold onlyL
      rw [if_neg (by simp [hp])]
      simp only [uR, if_neg hc]
      by_cases hr : (Lib.decodeL (c :: r)).2 = (c :: r).length
      · rw [if_pos ⟨by simp, hr⟩, List.drop_eq_nil_of_le (by omega), u_end]; simp [oneV]
      · rw [if_neg (fun e => hr e.2), u_more g _ _ _ (by intro e; have := congrArg List.length e; rw [List.length_drop, List.length_nil] at this; omega) (by rw [List.length_drop, List.length_cons]; omega)]
/-- What the reference makes of quotes. -/
def quoE (q : UInt8) (m : Nat) : Option (List UInt8 × List UInt8 × Nat × Nat) → PR
  | none => .err 2
  | some t => if t.1.head? ≠ some q ∨ (q = 39 ∧ t.2.2.1 ≠ 1) then .err 2 else if q = 39 then .tok 5 (m - t.1.length + 1) t.2.2.2 [] else .tok 6 (m - t.1.length + 1) 0 t.2.1
def quoR (q : UInt8) (r : List UInt8) : PR := quoE q (r.length + 1) (qR q r.length r [] 0 0)
theorem quot_cons (q : UInt8) (r : List UInt8) : quotL q (q :: r) = if quoL (q.toNat : Int) false r < r.length ∧ r.getD (quoL (q.toNat : Int) false r) 0 = q then some (1 + quoL (q.toNat : Int) false r + 1) else none := by
  have hle := quoL_le (q.toNat : Int) r false
  unfold quotL
  simp only [List.drop_succ_cons, List.drop_zero, List.length_cons]
  generalize quoL (q.toNat : Int) false r = e at *
  have hg : (q :: r).getD (1 + e) 0 = r.getD e 0 := by rw [Nat.add_comm, List.getD_cons_succ]
  rw [hg]
  by_cases h : e < r.length ∧ r.getD e 0 = q
  · rw [if_pos h, if_neg (fun k => k.elim (fun k => by omega) (fun k => k h.2))]
  · rw [if_neg h, if_pos]
    by_cases h1 : e < r.length
    · exact Or.inr (fun k => h ⟨h1, k⟩)
    · exact Or.inl (by omega)
theorem head_drop (r : List UInt8) (e : Nat) (h : e < r.length) : (r.drop e).head? = some (r.getD e 0) := by
  rw [List.head?_drop, List.getD_eq_getElem?_getD, List.getElem?_eq_getElem h]; rfl
theorem quo_char (r : List UInt8) (hV : Val r) : quoR 39 r = charL (39 :: r) := by
  have h := q_good 39 (Or.inl rfl) r.length r (Nat.le_refl _) hV [] 0 0
  have hle := quoL_le ((39 : UInt8).toNat : Int) r false
  unfold quoR charL
  rw [quot_cons]
  generalize quoL ((39 : UInt8).toNat : Int) false r = e at *
  by_cases hg : e < r.length ∧ r.getD e 0 = 39
  · rw [if_pos hg, h.1 hg r.length (by omega)]
    have hin : ((39 : UInt8) :: r).drop 1 = r := rfl
    have hn : 1 + e + 1 - 1 - 1 = e := by omega
    simp only [hin, hn]
    rw [u_only r.length (r.take e) (by rw [List.length_take]; omega)]
    cases hu : uR r.length (r.take e) [] 0 0 with
    | none => rfl
    | some t =>
      simp only [Option.map_some, quoE, oneV, head_drop r e hg.1, hg.2, ne_eq, not_true_eq_false, false_or, true_and, if_true]
      by_cases h1 : t.2.1 = 1
      · rw [if_neg (fun k => k h1), if_pos h1]
        simp only [List.length_drop]
        congr 1
        omega
      · rw [if_pos h1, if_neg h1]
  · rw [if_neg hg]
    rcases h.2 hg with h1 | ⟨x', t, h1, h2⟩
    · rw [h1]; rfl
    · rw [h1]; simp only [quoE, h2, ne_eq, not_false_eq_true, true_or, if_true]
theorem quo_text (r : List UInt8) (hV : Val r) : quoR 34 r = textL (34 :: r) := by
  have h := q_good 34 (Or.inr rfl) r.length r (Nat.le_refl _) hV [] 0 0
  have hle := quoL_le ((34 : UInt8).toNat : Int) r false
  unfold quoR textL
  rw [quot_cons]
  generalize quoL ((34 : UInt8).toNat : Int) false r = e at *
  by_cases hg : e < r.length ∧ r.getD e 0 = 34
  · rw [if_pos hg, h.1 hg r.length (by omega)]
    have hin : ((34 : UInt8) :: r).drop 1 = r := rfl
    have hn : 1 + e + 1 - 1 - 1 = e := by omega
    have hlen : (r.take e).length = e := by rw [List.length_take]; omega
    simp only [hin, hn]
    have hb := u_bytes r.length (r.take e) (by rw [hlen]; omega) (e + 1) (by rw [hlen]; omega) [] 0 0
    simp only [List.nil_append, Option.map_id'] at hb
    rw [← hb]
    cases hu : uR r.length (r.take e) [] 0 0 with
    | none => rfl
    | some t =>
      have h39 : ¬ ((34 : UInt8) = 39) := by decide
      simp only [Option.map_some, quoE, head_drop r e hg.1, hg.2, ne_eq, not_true_eq_false, false_or, h39, false_and, if_false]
      simp only [List.length_drop]
      congr 1
      omega
  · rw [if_neg hg]
    rcases h.2 hg with h1 | ⟨x', t, h1, h2⟩
    · rw [h1]; rfl
    · rw [h1]; simp only [quoE, h2, ne_eq, not_false_eq_true, true_or, if_true]
/-- The place behind a row of bytes. -/
def movL : Nat → List UInt8 → Int → Int → Int × Int
  | 0, _, l, c => (l, c)
  | f + 1, x, l, c => if x = [] then (l, c) else movL f (x.drop (Lib.decodeL x).2) (behZ l c (Lib.decodeL x).1).1 (behZ l c (Lib.decodeL x).1).2
theorem movL_fuel : ∀ f g x l c, x.length ≤ f → x.length ≤ g → movL f x l c = movL g x l c
  | 0, 0, x, l, c, _, _ => rfl
  | 0, g + 1, x, l, c, h, _ => by
    have : x = [] := List.eq_nil_of_length_eq_zero (by omega)
    subst this
    simp [movL]
  | f + 1, 0, x, l, c, _, h => by
    have : x = [] := List.eq_nil_of_length_eq_zero (by omega)
    subst this
    simp [movL]
  | f + 1, g + 1, x, l, c, h1, h2 => by
    unfold movL
    by_cases hx : x = []
    · rw [if_pos hx, if_pos hx]
    · rw [if_neg hx, if_neg hx]
      have hw := decL_w x hx
      have hd : (x.drop (Lib.decodeL x).2).length = x.length - (Lib.decodeL x).2 := List.length_drop
      exact movL_fuel f g _ _ _ (by omega) (by omega)
def mov (x : List UInt8) (l c : Int) : Int × Int := movL x.length x l c
theorem mov_nil (l c : Int) : mov [] l c = (l, c) := rfl
theorem mov_cons (x : List UInt8) (hx : x ≠ []) (l c : Int) : mov x l c = mov (x.drop (Lib.decodeL x).2) (behZ l c (Lib.decodeL x).1).1 (behZ l c (Lib.decodeL x).1).2 := by
  have hw := decL_w x hx
  have hd : (x.drop (Lib.decodeL x).2).length = x.length - (Lib.decodeL x).2 := List.length_drop
  have e : mov x l c = movL (x.length - 1 + 1) x l c := movL_fuel _ _ _ _ _ (Nat.le_refl _) (by omega)
  rw [e]
  unfold movL mov
  rw [if_neg hx]
  exact movL_fuel _ _ _ _ _ (by omega) (Nat.le_refl _)
theorem movF_L (s : ByteArray) : ∀ f pos l c, pos ≤ s.size → movF s f pos l c = movL f (s.data.toList.drop pos) l c
  | 0, pos, l, c, h => rfl
  | f + 1, pos, l, c, h => by
    by_cases hp : pos < s.size
    · have hne : s.data.toList.drop pos ≠ [] := by
        intro e
        have := congrArg List.length e
        rw [List.length_drop, ← size_list] at this
        simp at this
        omega
      have hw := dec_w s pos hp
      unfold movF movL
      rw [if_pos hp, if_neg hne, Lib.decodeL_drop, movF_L s f _ _ _ hw, List.drop_drop]
    · rw [movF_end _ _ _ _ _ hp]
      have : s.data.toList.drop pos = [] := List.drop_eq_nil_of_le (by rw [← size_list]; omega)
      rw [this]
      simp [movL]
theorem movF_mov (s : ByteArray) (l c : Int) : movF s s.size 0 l c = mov s.data.toList l c := by
  rw [movF_L s _ _ _ _ (Nat.zero_le _), List.drop_zero]
  unfold mov
  rw [size_list]
def utL : Nat → List UInt8 → Option Nat
  | 0, _ => none
  | f + 1, x => if x = [] then none else if Lib.decodeL x = (65533, 1) then some 0 else (utL f (x.drop (Lib.decodeL x).2)).map (· + (Lib.decodeL x).2)
def utV (pos : Nat) : Option Nat → Int
  | none => -1
  | some k => (pos : Int) + k
theorem utfF_L (s : ByteArray) : ∀ f pos, pos ≤ s.size → utfF s f pos = utV pos (utL f (s.data.toList.drop pos))
  | 0, pos, h => rfl
  | f + 1, pos, h => by
    by_cases hp : pos < s.size
    · have hne : s.data.toList.drop pos ≠ [] := by
        intro e
        have := congrArg List.length e
        rw [List.length_drop, ← size_list] at this
        simp at this
        omega
      have hw := dec_w s pos hp
      unfold utfF utL
      rw [if_pos hp, if_neg hne, Lib.decodeL_drop, utfF_L s f _ hw, List.drop_drop]
      by_cases hd : Utf8.decode s pos = (65533, 1)
      · rw [if_pos hd, if_pos hd]; simp [utV]
      · rw [if_neg hd, if_neg hd]
        cases utL f (s.data.toList.drop (pos + (Utf8.decode s pos).2)) with
        | none => rfl
        | some k => simp only [utV, Option.map_some]; omega
    · rw [utfF_end _ _ _ hp]
      have : s.data.toList.drop pos = [] := List.drop_eq_nil_of_le (by rw [← size_list]; omega)
      rw [this]
      simp [utL, utV]
theorem mov_take (x : List UInt8) (hx : x ≠ []) (hv : Lib.decodeL x ≠ (65533, 1)) (m : Nat) (hm : (Lib.decodeL x).2 ≤ m) (l c : Int) :
    mov (x.take m) l c = mov ((x.drop (Lib.decodeL x).2).take (m - (Lib.decodeL x).2)) (behZ l c (Lib.decodeL x).1).1 (behZ l c (Lib.decodeL x).1).2 := by
  have hw := decL_w x hx
  have hz := decL_pre x (x.take m) hv (by rw [List.length_take]; omega) (fun i hi => by rw [List.getD_eq_getElem?_getD, List.getD_eq_getElem?_getD, List.getElem?_take, if_pos (by omega)])
  have hne : x.take m ≠ [] := by
    intro e
    have := congrArg List.length e
    rw [List.length_take, List.length_nil] at this
    omega
  rw [mov_cons _ hne, hz, List.drop_take]
theorem ut_brk : ∀ f (x : List UInt8) l c, brokL f x l c = (utL f x).map fun k => mov (x.take k) l c
  | 0, x, l, c => rfl
  | f + 1, x, l, c => by
    unfold brokL utL
    by_cases hx : x = []
    · rw [if_pos hx, if_pos hx]; rfl
    · rw [if_neg hx, if_neg hx]
      by_cases hv : Lib.decodeL x = (65533, 1)
      · rw [if_pos hv, if_pos hv]; simp [mov_nil]
      · rw [if_neg hv, if_neg hv, ut_brk f, Option.map_map]
        cases utL f (x.drop (Lib.decodeL x).2) with
        | none => rfl
        | some k =>
          simp only [Option.map_some, Function.comp]
          rw [mov_take x hx hv (k + (Lib.decodeL x).2) (by omega), Nat.add_sub_cancel]
theorem utL_le : ∀ f (x : List UInt8) k, utL f x = some k → k < x.length ∧ x.length ≠ 0
  | 0, x, k, h => by cases h
  | f + 1, x, k, h => by
    unfold utL at h
    by_cases hx : x = []
    · rw [if_pos hx] at h; cases h
    · rw [if_neg hx] at h
      have hw := decL_w x hx
      by_cases hv : Lib.decodeL x = (65533, 1)
      · rw [if_pos hv] at h
        simp only [Option.some.injEq] at h
        have : 0 < x.length := List.length_pos_iff.2 hx
        omega
      · rw [if_neg hv] at h
        cases hu : utL f (x.drop (Lib.decodeL x).2) with
        | none => rw [hu] at h; cases h
        | some j =>
          rw [hu] at h
          simp only [Option.map_some, Option.some.injEq] at h
          have := utL_le f _ j hu
          rw [List.length_drop] at this
          omega
theorem val_al : ∀ (n : Nat) (x : List UInt8), x.length ≤ n → ∀ m, Al x m → Val x → Val (x.drop m)
  | n, x, hn, m, ha, hv => by
    by_cases hm : m = 0
    · subst hm; simpa using hv
    · have hx : x ≠ [] := fun e => by
        subst e
        have := ha.resolve_left hm
        simp at this
        omega
      obtain ⟨h1, h2⟩ := decL_al x m hx ha hm
      have hw := decL_w x hx
      cases n with
      | zero => exact absurd (List.eq_nil_of_length_eq_zero (by omega)) hx
      | succ n =>
        have := val_al n (x.drop (Lib.decodeL x).2) (by rw [List.length_drop]; omega) _ h2 (val_dec hv hx).2
        rw [List.drop_drop] at this
        rw [show (Lib.decodeL x).2 + (m - (Lib.decodeL x).2) = m by omega] at this
        exact this
theorem pcs_skip : ∀ (n : Nat) (x : List UInt8), x.length ≤ n → ∀ m l c, Al x m → Val x → pcs x m l c = pcs (x.drop m) 0 (mov (x.take m) l c).1 (mov (x.take m) l c).2
  | n, x, hn, m, l, c, ha, hv => by
    by_cases hm : m = 0
    · subst hm; rw [List.take_zero, mov_nil, List.drop_zero]
    · have hx : x ≠ [] := fun e => by
        subst e
        have := ha.resolve_left hm
        simp at this
        omega
      obtain ⟨h1, h2⟩ := decL_al x m hx ha hm
      have hw := decL_w x hx
      have hd := val_dec hv hx
      cases n with
      | zero => exact absurd (List.eq_nil_of_length_eq_zero (by omega)) hx
      | succ n =>
        rw [pcs_cons x hx, if_neg (fun e => hm e.1), pcs_skip n _ (by rw [List.length_drop]; omega) _ _ _ h2 hd.2, mov_take x hx hd.1 m h1, List.drop_drop]
        rw [show (Lib.decodeL x).2 + (m - (Lib.decodeL x).2) = m by omega]
theorem blank_lo (c : UInt8) (r : List UInt8) : blankZ (Lib.decodeL (c :: r)).1 = blankZ (c.toNat : Int) := by
  by_cases hc : c.toNat < 128
  · rw [decL_lo c r hc]
  · have hd := dec_hi ⟨(c :: r).toArray⟩ 0 (by rw [mk_size]; simp) (by simpa using hc)
    rw [blankZ_hi _ (by have := hd.1; show (128 : Int) ≤ ((Lib.decodeL (c :: r)).1 : Int); exact_mod_cast this), blankZ_hi _ (by omega)]
/-- A blank ahead. -/
theorem pcs_blank (c : UInt8) (r : List UInt8) (h : blankZ (c.toNat : Int) = true) (l k : Int) : pcs (c :: r) 0 l k = pcs r 0 (mov [c] l k).1 (mov [c] l k).2 := by
  have hlo : c.toNat < 128 := by
    apply Classical.byContradiction
    intro hn
    rw [blankZ_hi _ (by omega)] at h
    cases h
  rw [pcs_cons (c :: r) (by simp), if_neg (by rw [blank_lo, h]; simp), mov_cons [c] (by simp), decL_lo c r hlo, decL_lo c [] hlo]
  simp [mov_nil]
/-- What the reference makes of a token. -/
def pcsE (x : List UInt8) (l c : Int) : PR → TR
  | .err e => .err l c e
  | .tok k n b d => TR.app [tkL x l c k n b d] (pcs (x.drop n) 0 (mov (x.take n) l c).1 (mov (x.take n) l c).2)
theorem pcs_tok (c : UInt8) (r : List UInt8) (h : blankZ (c.toNat : Int) = false) (hv : Val (c :: r)) (l k : Int) : pcs (c :: r) 0 l k = pcsE (c :: r) l k (pieceL (c :: r)) := by
  rw [pcs_cons (c :: r) (by simp), if_pos ⟨rfl, by rw [blank_lo, h]⟩]
  cases hp : pieceL (c :: r) with
  | err e => rfl
  | tok kk n b d =>
    have hl := piece_len _ _ _ _ _ hp
    have ha := piece_al _ _ _ _ _ hp
    have hs := pcs_skip _ (c :: r) (Nat.le_refl _) n l k ha hv
    rw [pcs_cons (c :: r) (by simp), if_neg (fun e => by have := e.1; omega)] at hs
    simp only [stepL, pcsE]
    rw [List.length_take, Nat.min_eq_left hl.2.1, hs]
theorem behZ_bnd (l c r : Int) (hl : 0 ≤ l) (hc : 0 ≤ c) : 0 ≤ (behZ l c r).1 ∧ (behZ l c r).1 ≤ l + 1 ∧ 0 ≤ (behZ l c r).2 ∧ (behZ l c r).2 ≤ c + 1 := by
  unfold behZ
  split <;> simp only <;> omega
theorem mov_bnd : ∀ (n : Nat) (x : List UInt8), x.length ≤ n → ∀ l c : Int, 0 ≤ l → 0 ≤ c → 0 ≤ (mov x l c).1 ∧ (mov x l c).1 ≤ l + x.length ∧ 0 ≤ (mov x l c).2 ∧ (mov x l c).2 ≤ c + x.length
  | n, x, hn, l, c, hl, hc => by
    by_cases hx : x = []
    · subst hx; rw [mov_nil]; simp; omega
    · have hw := decL_w x hx
      have hb := behZ_bnd l c (Lib.decodeL x).1 hl hc
      cases n with
      | zero => exact absurd (List.eq_nil_of_length_eq_zero (by omega)) hx
      | succ n =>
        have ih := mov_bnd n (x.drop (Lib.decodeL x).2) (by rw [List.length_drop]; omega) _ _ hb.1 hb.2.2.1
        rw [mov_cons x hx]
        rw [List.length_drop] at ih
        omega
end Go.Proofs.YtcmfmfgedhfaeaaGreatDoor
/- The reference: a reserved word; a sign. -/
namespace Go.Proofs.YtcmfmfgedhfaeaaGreatDoor
set_option linter.unusedSimpArgs false
set_option linter.unusedVariables false
open Go.RowKit

theorem get_L (s : ByteArray) (k : Nat) (h : k < s.size) : s[k]'h = s.data.toList.getD k 0 := by
  rw [List.getD_eq_getElem?_getD, List.getElem?_eq_getElem (by rw [← size_list]; exact h)]
  rfl
theorem u8_eq (c : UInt8) (k : Nat) (h : c.toNat = k) : ((c.toNat : Int) == (k : Int)) = true := by simp [h]
theorem u8_ne (c : UInt8) (k : Nat) (h : ¬ c.toNat = k) : ((c.toNat : Int) == (k : Int)) = false := by simp only [beq_eq_false_iff_ne]; omega
set_option maxRecDepth 100000 in
theorem wl_eq : ({ data := (([32, 98, 114, 101, 97, 107, 32, 99, 97, 115, 101, 32, 99, 104, 97, 114, 32, 99, 111, 110, 116, 105, 110, 117, 101, 32, 100, 101, 102, 97, 117, 108, 116, 32, 100, 111].append [32, 100, 111, 117, 98, 108, 101, 32, 101, 108, 115, 101, 32, 101, 120, 116, 101, 114, 110, 32, 102, 111, 114, 32, 103, 111, 116, 111, 32, 105, 102, 32, 105, 110, 116, 32]).append ([108, 111, 110, 103, 32, 114, 101, 116, 117, 114, 110, 32, 115, 104, 111, 114, 116, 32, 115, 105, 103, 110, 101, 100, 32, 115, 105, 122, 101, 111, 102, 32, 115, 116, 114, 117].append [99, 116, 32, 115, 119, 105, 116, 99, 104, 32, 117, 110, 105, 111, 110, 32, 117, 110, 115, 105, 103, 110, 101, 100, 32, 118, 111, 105, 100, 32, 119, 104, 105, 108, 101, 32])).toArray } : ByteArray) = ⟨wlit.toArray⟩ := by rfl
set_option maxRecDepth 100000 in
theorem sl_eq : ({ data := ([60, 60, 61, 32, 62, 62, 61, 32, 43, 43, 32, 45, 45, 32, 45, 62, 32, 60, 60, 32, 62, 62, 32, 60, 61, 32, 62, 61, 32, 61, 61, 32, 33, 61, 32, 38, 38, 32, 124, 124, 32, 43, 61, 32, 45, 61, 32, 42, 61, 32, 47, 61, 32, 37, 61, 32].append [38, 61, 32, 124, 61, 32, 94, 61, 32, 43, 32, 45, 32, 42, 32, 47, 32, 37, 32, 38, 32, 124, 32, 94, 32, 126, 32, 33, 32, 60, 32, 62, 32, 61, 32, 63, 32, 58, 32, 59, 32, 44, 32, 46, 32, 40, 32, 41, 32, 91, 32, 93, 32, 123, 32, 125, 32]).toArray } : ByteArray) = ⟨slit.toArray⟩ := by rfl
theorem ext_L (s : ByteArray) (i j : Nat) : (s.extract i j).toList = (s.data.toList.drop i).take (j - i) := by
  rw [ByteArray.toList_eq, Lib.extract_data]
set_option maxRecDepth 100000 in
set_option maxHeartbeats 4000000 in
theorem wordR_any (s : ByteArray) (hs : s.size ≤ 1048576) (w : World) : Calls Tryz.prog 30 #[.string s] w fun e w' => e = .returned (.bool (decide (s.data.toList ∈ wordsL))) ∧ Fresh w w' := by
  obtain ⟨R, hR⟩ : ∃ R, R = decide (s.data.toList ∈ wordsL) := ⟨_, rfl⟩
  rw [← hR]
  have HR := Lib.hid hR
  clear hR
  obtain ⟨L, hL⟩ : ∃ L : ByteArray, L = ⟨wlit.toArray⟩ := ⟨_, rfl⟩
  have HL := Lib.hid hL
  have hLz : L.size = 144 := by rw [hL]; exact wlit_len
  go_enter Tryz.func30, Tryz.ntmps30
  rw [wl_eq, ← hL]
  clear hL
  go_wp2_with fail
  go_loop [3] (fun i => ∃ (k : Nat), k ≤ s.size ∧ i = .int .i64 k ∧ Hid (∀ j, j < k → s.data.toList.getD j 0 ≠ 32)) (fun i => s.size - (intOf i).toNat)
  case atStart => exact ⟨0, Nat.zero_le _, rfl, Lib.hid (fun j h => absurd h (by omega))⟩
  case round =>
    obtain ⟨k, hk, rfl, HJ⟩ := hrel
    by_cases hlt : k < s.size
    · have hltI : (k : Int) < (s.size : Int) := by omega
      have HC := Lib.hid (get_L s k hlt)
      by_cases hc : (s[k]'hlt).toNat = 32
      · have b : (((s[k]'hlt).toNat : Int) == 32) = true := u8_eq _ 32 hc
        have HE : Hid (false = R) := Lib.hid (by
          rw [HR.out]; symm; rw [decide_eq_false_iff_not]
          refine blank_out _ ?_
          have e : s[k]'hlt = 32 := (u_nat _ 32 (by decide)).2 hc
          rw [← e, HC.out]
          exact memD _ _ (by rw [← size_list]; exact hlt))
        clear hc HC HJ HR
        go_wp2_with fail
        go_ret
        exact ⟨by rw [← HE.out]; rfl, Fresh.refl _⟩
      · have b : (((s[k]'hlt).toNat : Int) == 32) = false := u8_ne _ 32 hc
        have HN : Hid (∀ j, j < k + 1 → s.data.toList.getD j 0 ≠ 32) := Lib.hid (fun j hj => by
          by_cases e : j = k
          · subst e; rw [← HC.out]; exact fun e => hc ((u_nat _ 32 (by decide)).1 e)
          · exact HJ.out j (by omega))
        clear hc HC HJ
        go_wp2_with fail
        go_round
        case rel => exact ⟨k + 1, by omega, by go_num, HN⟩
        case measure => simp [intOf]; omega
    · have hltI : ¬ (k : Int) < (s.size : Int) := by omega
      have ek : k = s.size := by omega
      have HB : Hid ((32 : UInt8) ∉ s.data.toList) := Lib.hid (fun h => by
        obtain ⟨i, hi, he⟩ := List.mem_iff_getElem.1 h
        rw [← size_list] at hi
        refine HJ.out i (by omega) ?_
        rw [List.getD_eq_getElem?_getD, List.getElem?_eq_getElem (by rw [← size_list]; exact hi), he]
        rfl)
      clear HJ
      go_wp2_with fail
      go_loop [4] (fun i => ∃ (k : Nat), k ≤ 144 ∧ i = .int .i64 k ∧ Hid (∀ j, j < k → hitW s.data.toList j = false)) (fun i => 144 - (intOf i).toNat)
      case atStart => exact ⟨0, by omega, rfl, Lib.hid (fun j h => absurd h (by omega))⟩
      case round =>
        clear hltI hk ek
        obtain ⟨m, hk2, rfl, HH⟩ := hrel
        by_cases hlt2 : m < 144
        · have hlt2I : (m : Int) < 144 := by omega
          have hlL : m < L.size := by omega
          have hlLI : (m : Int) < (L.size : Int) := by omega
          have HC := Lib.hid (get_L L m hlL)
          have HLd : Hid (L.data.toList = wlit) := Lib.hid (by rw [HL.out])
          have yes : hitW s.data.toList m = true → (R = !s.toList.isEmpty) := fun h => (by
            have hin := hit_in _ m hlt2 HB.out h
            rw [HR.out, decide_eq_true hin]
            have := (words_nb _ hin).2
            rw [ByteArray.toList_eq]
            cases hl : s.data.toList with
            | nil => exact absurd hl this
            | cons a r => rfl)
          have no : hitW s.data.toList m = false → Hid (∀ j, j < m + 1 → hitW s.data.toList j = false) := fun h => Lib.hid (fun j hj => by
            by_cases e : j = m
            · subst e; exact h
            · exact HH.out j (by omega))
          have YES := Lib.hid yes
          have NO := Lib.hid no
          have hw1 : IntKind.i64.wrap ((m : Int) + 1) = (m : Int) + 1 := IntWalk.i64_in _ (by omega)
          have hw2 : IntKind.i64.wrap ((m : Int) + 1 + (s.size : Int)) = (m : Int) + 1 + (s.size : Int) := IntWalk.i64_in _ (by omega)
          clear yes no HH HR
          by_cases hc : (L[m]'hlL).toNat = 32
          · have b : (((L[m]'hlL).toNat : Int) == 32) = true := u8_eq _ 32 hc
            have HW1 : Hid (wlit.getD m 0 = 32) := Lib.hid (by rw [← HLd.out, ← HC.out]; exact (u_nat _ 32 (by decide)).2 hc)
            clear hc HC
            by_cases h2 : m + 1 + s.size < 144
            · have h2I : (m : Int) + 1 + (s.size : Int) < 144 := by omega
              have h2L : (m : Int) + 1 + (s.size : Int) < (L.size : Int) := by omega
              have h2N : m + 1 + s.size < L.size := by omega
              have s1 : (m : Int) + 1 ≤ (m : Int) + 1 + (s.size : Int) := by omega
              have s2 : (m : Int) + 1 + (s.size : Int) ≤ (L.size : Int) := by omega
              have hx : Hid ((L.extract (m + 1) (m + 1 + s.size)).toList = (wlit.drop (m + 1)).take s.data.toList.length) := Lib.hid (by rw [ext_L, HLd.out, ← size_list]; congr 1; omega)
              have HC2 := Lib.hid (get_L L (m + 1 + s.size) h2N)
              have HX : Hid (∀ b1 b2 : Bool, ((L.extract (m + 1) (m + 1 + s.size)).toList = s.toList ↔ b1 = true) → ((L[m + 1 + s.size]'h2N).toNat = 32 ↔ b2 = true) → hitW s.data.toList m = (b1 && b2)) := Lib.hid (fun b1 b2 e1 e2 => by
                have e3 : wlit.getD (m + 1 + s.data.toList.length) 0 = 32 ↔ b2 = true := by
                  rw [← e2, HC2.out, HLd.out, ← size_list]
                  exact u_nat _ 32 (by decide)
                have e4 : (wlit.drop (m + 1)).take s.data.toList.length = s.data.toList ↔ b1 = true := by
                  rw [← e1, hx.out, ByteArray.toList_eq]
                unfold hitW
                rw [HW1.out, decide_eq_true rfl, decide_eq_true (by rw [← size_list]; exact h2)]
                rw [Bool.eq_iff_iff]
                simp only [Bool.true_and, Bool.and_eq_true, decide_eq_true_eq, e3, e4])
              clear hx HC2 HW1
              go_wp2_with fail
              · rename_i q1 q2 q3 q4
                have ht := HX.out true true (by simpa using q1) (by simp only [beq_iff_eq] at q4; simp only [iff_true]; omega)
                have hR := YES.out ht
                go_ret
                exact ⟨by rw [hR]; rfl, Fresh.refl _⟩
              · rename_i q1 q2 q3 q4
                have ht := HX.out true false (by simpa using q1) (by simp only [beq_eq_false_iff_ne] at q4; simp only [Bool.false_eq_true, iff_false]; omega)
                have HN := NO.out ht
                go_round
                case rel => exact ⟨m + 1, by omega, by go_num, HN⟩
                case measure => simp [intOf]; omega
              · rename_i q1
                have ht : hitW s.data.toList m = false := by
                  cases hb : decide ((L[m + 1 + s.size]'h2N).toNat = 32) with
                  | false => exact HX.out false false (by simpa using q1) (by simpa using hb)
                  | true => exact HX.out false true (by simpa using q1) (by simpa using hb)
                have HN := NO.out ht
                go_round
                case rel => exact ⟨m + 1, by omega, by go_num, HN⟩
                case measure => simp [intOf]; omega
            · have h2I : (144 : Int) ≤ (m : Int) + 1 + (s.size : Int) := by omega
              have HN := NO.out (by
                unfold hitW
                rw [← size_list]
                simp only [Bool.and_eq_false_iff, decide_eq_false_iff_not]
                exact Or.inl (Or.inl (Or.inr h2)))
              have bb : decide ((m : Int) + 1 + (s.size : Int) < 144) = false := decide_eq_false (by omega)
              clear YES NO h2 h2I hs
              go_wp2_with fail
              go_round
              case rel => exact ⟨m + 1, by omega, by go_num, HN⟩
              case measure => simp [intOf]; omega
          · have b : (((L[m]'hlL).toNat : Int) == 32) = false := u8_ne _ 32 hc
            have HN := NO.out (by
              unfold hitW
              simp only [Bool.and_eq_false_iff, decide_eq_false_iff_not]
              exact Or.inl (Or.inl (Or.inl (fun e => hc ((u_nat _ 32 (by decide)).1 (by rw [HC.out, HLd.out]; exact e))))))
            clear YES NO hc HC hs hw1 hw2
            go_wp2_with fail
            go_round
            case rel => exact ⟨m + 1, by omega, by go_num, HN⟩
            case measure => simp [intOf]; omega
        · have hlt2I : ¬ (m : Int) < 144 := by omega
          have HE : Hid (false = R) := Lib.hid (by
            rw [HR.out]; symm; rw [decide_eq_false_iff_not]
            exact miss_out _ (fun i hi => HH.out i (by omega)))
          clear HR HH
          go_wp2_with fail
          go_ret
          exact ⟨by rw [← HE.out]; rfl, Fresh.refl _⟩
end Go.Proofs.YtcmfmfgedhfaeaaGreatDoor
/- The reference: a sign. -/
namespace Go.Proofs.YtcmfmfgedhfaeaaGreatDoor
set_option linter.unusedSimpArgs false
set_option linter.unusedVariables false
open Go.RowKit

theorem bytes_ext (a : ByteArray) (l : List UInt8) (h : a.data.toList = l) : a = ⟨l.toArray⟩ := by
  apply ByteArray.ext
  apply Array.toList_inj.1
  rw [h]
set_option maxRecDepth 100000 in
set_option maxHeartbeats 2000000 in
theorem signR_any (s : ByteArray) (hs : s.size ≤ 1048576) (w : World) : Calls Tryz.prog 33 #[.string s] w fun e w' => e = .returned (.string ⟨(sgnW s.data.toList [] slit).toArray⟩) ∧ Fresh w w' := by
  obtain ⟨R, hR⟩ : ∃ R, R = sgnW s.data.toList [] slit := ⟨_, rfl⟩
  rw [← hR]
  have HR := Lib.hid hR
  clear hR
  obtain ⟨L, hL⟩ : ∃ L : ByteArray, L = ⟨slit.toArray⟩ := ⟨_, rfl⟩
  have HL : Hid (L.data.toList = slit) := Lib.hid (by rw [hL])
  have hLz : L.size = 113 := by rw [hL]; exact slit_len
  go_enter Tryz.func33, Tryz.ntmps33
  rw [sl_eq, ← hL]
  clear hL
  go_wp2_with fail
  go_loop [3, 4] (fun vf vi => ∃ (fr i : Nat), fr ≤ i ∧ i ≤ 113 ∧ vf = .int .i64 fr ∧ vi = .int .i64 i ∧ Hid (sgnW s.data.toList ((slit.drop fr).take (i - fr)) (slit.drop i) = R)) (fun _ vi => 113 - (intOf vi).toNat)
  case atStart => exact ⟨0, 0, Nat.le_refl _, by omega, rfl, rfl, Lib.hid (by rw [HR.out]; rfl)⟩
  case round =>
    obtain ⟨fr, i, hfi, hi, rfl, rfl, HS⟩ := hrel
    clear HR
    by_cases hlt : i < 113
    · have hltI : (i : Int) < 113 := by omega
      have hlL : i < L.size := by omega
      have hlLI : (i : Int) < (L.size : Int) := by omega
      have HC := Lib.hid (get_L L i hlL)
      have HD : Hid (slit.drop i = slit.getD i 0 :: slit.drop (i + 1)) := Lib.hid (drop_cons _ _ (by rw [slit_len]; exact hlt))
      have HCL : Hid (L[i]'hlL = slit.getD i 0) := Lib.hid (by rw [HC.out, HL.out])
      by_cases hc : (L[i]'hlL).toNat = 32
      · have b : (((L[i]'hlL).toNat : Int) != 32) = false := by simp [hc]
        have b2 : (((L[i]'hlL).toNat : Int) == 32) = true := u8_eq _ 32 hc
        have s1 : (fr : Int) ≤ (i : Int) := by omega
        have s2 : (i : Int) ≤ (L.size : Int) := by omega
        have HX : Hid ((L.extract fr i).data.toList = (slit.drop fr).take (i - fr)) := Lib.hid (by rw [Lib.extract_data, HL.out])
        have HS1 : Hid ((if ((slit.drop fr).take (i - fr)).isPrefixOf s.data.toList = true then (slit.drop fr).take (i - fr) else sgnW s.data.toList ((slit.drop (i + 1)).take (i + 1 - (i + 1))) (slit.drop (i + 1))) = R) := Lib.hid (by
          rw [← HS.out, HD.out]
          have e : slit.getD i 0 = 32 := by rw [← HCL.out]; exact (u_nat _ 32 (by decide)).2 hc
          simp only [sgnW, e, ne_eq, not_true_eq_false, if_false, Nat.sub_self, List.take_zero])
        have hw1 : IntKind.i64.wrap ((i : Int) + 1) = (i : Int) + 1 := IntWalk.i64_in _ (by omega)
        clear HS HD HCL HC
        go_upto_region 7 with fail
        obtain ⟨X, hX⟩ : ∃ X, X = L.extract fr i := ⟨_, rfl⟩
        rw [← hX] at HX ⊢
        clear hX
        have hxz : X.size ≤ 113 := by
          have := congrArg List.length HX.out
          rw [← size_list, List.length_take] at this
          omega
        by_cases hle : X.size ≤ s.size
        · have l1 : (X.size : Int) ≤ (s.size : Int) := by omega
          have HP : Hid (((s.extract 0 X.size).toList = X.toList) ↔ ((slit.drop fr).take (i - fr)).isPrefixOf s.data.toList = true) := Lib.hid (by
            rw [List.isPrefixOf_iff_prefix, List.prefix_iff_eq_take, ← HX.out, ext_L, ByteArray.toList_eq, List.drop_zero, Nat.sub_zero, ← size_list]
            exact eq_comm)
          clear hle hs hxz
          go_wp2_with fail
          · rename_i q1 q2
            have hp := HP.out.1 (by simpa using q1)
            have HE : Hid (X.data.toList = R) := Lib.hid (by rw [← HS1.out, if_pos hp, HX.out])
            have e := bytes_ext X R HE.out
            go_ret
            exact ⟨by rw [← e]; rfl, Fresh.refl _⟩
          · rename_i q1 q2
            have hp : ¬ ((slit.drop fr).take (i - fr)).isPrefixOf s.data.toList = true := fun h => by
              have := HP.out.2 h
              simp [this] at q2
            have HN : Hid (sgnW s.data.toList ((slit.drop (i + 1)).take (i + 1 - (i + 1))) (slit.drop (i + 1)) = R) := Lib.hid (by rw [← HS1.out, if_neg hp])
            go_round
            case rel => exact ⟨i + 1, i + 1, Nat.le_refl _, by omega, by go_num, by go_num, HN⟩
            case measure => simp [intOf]; omega
        · have bb : decide ((s.size : Int) < (X.size : Int)) = true := decide_eq_true (by omega)
          have l1 : ¬ (X.size : Int) ≤ (s.size : Int) := by omega
          have HP : Hid (((slit.drop fr).take (i - fr)).isPrefixOf s.data.toList = false) := Lib.hid (by
            rw [Bool.eq_false_iff, ne_eq, List.isPrefixOf_iff_prefix, ← HX.out]
            intro h
            have := h.length_le
            rw [← size_list, ← size_list] at this
            omega)
          have HN : Hid (sgnW s.data.toList ((slit.drop (i + 1)).take (i + 1 - (i + 1))) (slit.drop (i + 1)) = R) := Lib.hid (by rw [← HS1.out, HP.out]; rfl)
          clear hle hs hxz HS1 HP
          go_wp2_with fail
          go_round
          case rel => exact ⟨i + 1, i + 1, Nat.le_refl _, by omega, by go_num, by go_num, HN⟩
          case measure => simp [intOf]; omega
      · have b : (((L[i]'hlL).toNat : Int) != 32) = true := by simp only [bne_iff_ne]; omega
        have b2 : (((L[i]'hlL).toNat : Int) == 32) = false := u8_ne _ 32 hc
        have HN : Hid (sgnW s.data.toList ((slit.drop fr).take (i + 1 - fr)) (slit.drop (i + 1)) = R) := Lib.hid (by
          rw [← HS.out, HD.out]
          have e : slit.getD i 0 ≠ 32 := by rw [← HCL.out]; exact fun e => hc ((u_nat _ 32 (by decide)).1 e)
          simp only [sgnW, e, ne_eq, not_false_eq_true, if_true]
          congr 1
          rw [show i + 1 - fr = (i - fr) + 1 by omega, List.take_add_one, List.getElem?_drop, show fr + (i - fr) = i by omega, List.getD_eq_getElem?_getD, List.getElem?_eq_getElem (by rw [slit_len]; exact hlt)]
          rfl)
        clear hs HS HD HCL HC hc
        go_wp2_with fail
        go_round
        case rel => exact ⟨fr, i + 1, by omega, by omega, by go_num, by go_num, HN⟩
        case measure => simp [intOf]; omega
    · have hltI : ¬ (i : Int) < 113 := by omega
      have HE : Hid ([] = R) := Lib.hid (by rw [← HS.out, List.drop_eq_nil_of_le (show slit.length ≤ i by rw [slit_len]; omega)]; simp [sgnW])
      clear HS
      go_wp2_with fail
      go_ret
      exact ⟨by rw [← HE.out]; rfl, Fresh.refl _⟩
end Go.Proofs.YtcmfmfgedhfaeaaGreatDoor
/- The reference: a digit, a letter, a digit in sixteens change nothing. -/
namespace Go.Proofs.YtcmfmfgedhfaeaaGreatDoor
set_option linter.unusedSimpArgs false
set_option linter.unusedVariables false
open Go.RowKit

theorem digitR_same (r : Int) (w : World) : Calls Tryz.prog 29 #[.int .u8 r] w fun e w' => e = .returned (.bool (digitZ r)) ∧ w' = w := by
  have hc : (48 ≤ r ∧ r ≤ 57) ∨ (48 ≤ r ∧ ¬ r ≤ 57) ∨ ¬ 48 ≤ r := by omega
  rcases hc with ⟨h1, h2⟩ | ⟨h1, h2⟩ | h1
  · have he : digitZ r = true := by simp [digitZ, h1, h2]
    rw [he]
    go_enter Tryz.func29, Tryz.ntmps29
    go_wp2_with fail
    go_returns
    exact ⟨rfl, rfl⟩
  · have he : digitZ r = false := by simp [digitZ, h1, h2]
    rw [he]
    go_enter Tryz.func29, Tryz.ntmps29
    go_wp2_with fail
    go_returns
    exact ⟨rfl, rfl⟩
  · have he : digitZ r = false := by simp [digitZ, h1]
    rw [he]
    go_enter Tryz.func29, Tryz.ntmps29
    go_wp2_with fail
    go_returns
    exact ⟨rfl, rfl⟩
theorem letterR_same (r : Int) (w : World) : Calls Tryz.prog 28 #[.int .u8 r] w fun e w' => e = .returned (.bool (letterZ r)) ∧ w' = w := by
  have hc : (97 ≤ r ∧ r ≤ 122) ∨ (97 ≤ r ∧ ¬ r ≤ 122 ∧ 65 ≤ r ∧ ¬ r ≤ 90 ∧ r ≠ 95) ∨ (¬ 97 ≤ r ∧ 65 ≤ r ∧ r ≤ 90) ∨ r = 95 ∨ (¬ 97 ≤ r ∧ 65 ≤ r ∧ ¬ r ≤ 90 ∧ r ≠ 95) ∨ (¬ 97 ≤ r ∧ ¬ 65 ≤ r ∧ r ≠ 95) := by omega
  rcases hc with ⟨h1, h2⟩ | ⟨h1, h2, h3, h4, h5⟩ | ⟨h1, h2, h3⟩ | rfl | ⟨h1, h2, h3, h4⟩ | ⟨h1, h2, h3⟩
  · have he : letterZ r = true := by simp [letterZ, h1, h2]
    rw [he]
    go_enter Tryz.func28, Tryz.ntmps28
    go_wp2_with fail
    go_returns
    exact ⟨rfl, rfl⟩
  · have he : letterZ r = false := by simp [letterZ, h1, h2, h3, h4, h5]
    have b5 : (r == 95) = false := by simpa using h5
    rw [he]
    go_enter Tryz.func28, Tryz.ntmps28
    go_wp2_with fail
    go_returns
    exact ⟨rfl, rfl⟩
  · have he : letterZ r = true := by simp [letterZ, h1, h2, h3]
    rw [he]
    go_enter Tryz.func28, Tryz.ntmps28
    go_wp2_with fail
    go_returns
    exact ⟨rfl, rfl⟩
  · go_enter Tryz.func28, Tryz.ntmps28
    go_wp2_with fail
    go_returns
    exact ⟨rfl, rfl⟩
  · have he : letterZ r = false := by simp [letterZ, h1, h2, h3, h4]
    have b5 : (r == 95) = false := by simpa using h4
    rw [he]
    go_enter Tryz.func28, Tryz.ntmps28
    go_wp2_with fail
    go_returns
    exact ⟨rfl, rfl⟩
  · have he : letterZ r = false := by simp [letterZ, h1, h2, h3]
    have b5 : (r == 95) = false := by simpa using h3
    rw [he]
    go_enter Tryz.func28, Tryz.ntmps28
    go_wp2_with fail
    go_returns
    exact ⟨rfl, rfl⟩
set_option maxRecDepth 100000 in
set_option maxHeartbeats 4000000 in
theorem hexR_same (r : Int) (w : World) : Calls Tryz.prog 61 #[.int .u8 r] w fun e w' => e = .returned (.int .i64 (hexZ r)) ∧ w' = w := by
  have hc : (48 ≤ r ∧ r ≤ 57) ∨ (97 ≤ r ∧ r ≤ 102) ∨ (65 ≤ r ∧ r ≤ 70) ∨ (97 ≤ r ∧ ¬ r ≤ 102) ∨ (¬ 97 ≤ r ∧ ¬ 65 ≤ r ∧ ¬ 48 ≤ r) ∨ (¬ 97 ≤ r ∧ ¬ 65 ≤ r ∧ 48 ≤ r ∧ ¬ r ≤ 57) ∨ (¬ 97 ≤ r ∧ 65 ≤ r ∧ ¬ r ≤ 70) := by omega
  have D := Lib.hid (fun X => digitR_same r X)
  rcases hc with ⟨h1, h2⟩ | ⟨h1, h2⟩ | ⟨h1, h2⟩ | ⟨h1, h2⟩ | ⟨h1, h2, h3⟩ | ⟨h1, h2, h3, h4⟩ | ⟨h1, h2, h3⟩
  · have hd : digitZ r = true := by unfold digitZ; simp only [Bool.and_eq_true, Bool.and_eq_false_iff, decide_eq_true_eq, decide_eq_false_iff_not]; omega
    have he : hexZ r = r - 48 := by unfold hexZ; rw [if_pos (by omega)]
    rw [he]
    rw [hd] at D
    have hw : IntKind.u8.wrap (r - 48) = r - 48 := IntWalk.u8_in _ (by omega)
    have hv : IntKind.i64.wrap (r - 48) = r - 48 := IntWalk.i64_in _ (by omega)
    go_enter Tryz.func61, Tryz.ntmps61
    go_wp2_with fail
    go_at_call 29; refine (D.out _).mono ?_; rintro e w1 ⟨rfl, rfl⟩
    go_wp2_with fail
    go_ret
    exact ⟨by first | rfl | (simp [*]; done) | (simp; omega), rfl⟩
  · have hd : digitZ r = false := by unfold digitZ; simp only [Bool.and_eq_true, Bool.and_eq_false_iff, decide_eq_true_eq, decide_eq_false_iff_not]; omega
    have he : hexZ r = r - 87 := by unfold hexZ; rw [if_neg (by omega), if_pos (by omega)]
    rw [he]
    rw [hd] at D
    have g1 : 97 ≤ r := h1
    have hw : IntKind.u8.wrap (r - 97) = r - 97 := IntWalk.u8_in _ (by omega)
    have hv : IntKind.i64.wrap (r - 97) = r - 97 := IntWalk.i64_in _ (by omega)
    have hx : r - 97 + 10 = r - 87 := by omega
    have hy : IntKind.i64.wrap (r - 97 + 10) = r - 97 + 10 := IntWalk.i64_in _ (by omega)
    go_enter Tryz.func61, Tryz.ntmps61
    go_wp2_with fail
    go_at_call 29; refine (D.out _).mono ?_; rintro e w1 ⟨rfl, rfl⟩
    go_wp2_with fail
    go_ret
    exact ⟨by first | rfl | (simp [*]; done) | (simp; omega), rfl⟩
  · have hd : digitZ r = false := by unfold digitZ; simp only [Bool.and_eq_true, Bool.and_eq_false_iff, decide_eq_true_eq, decide_eq_false_iff_not]; omega
    have he : hexZ r = r - 55 := by unfold hexZ; rw [if_neg (by omega), if_neg (by omega), if_pos (by omega)]
    rw [he]
    rw [hd] at D
    have g1 : ¬ 97 ≤ r := by omega
    have hw : IntKind.u8.wrap (r - 65) = r - 65 := IntWalk.u8_in _ (by omega)
    have hv : IntKind.i64.wrap (r - 65) = r - 65 := IntWalk.i64_in _ (by omega)
    have hx : r - 65 + 10 = r - 55 := by omega
    have hy : IntKind.i64.wrap (r - 65 + 10) = r - 65 + 10 := IntWalk.i64_in _ (by omega)
    go_enter Tryz.func61, Tryz.ntmps61
    go_wp2_with fail
    go_at_call 29; refine (D.out _).mono ?_; rintro e w1 ⟨rfl, rfl⟩
    go_wp2_with fail
    go_ret
    exact ⟨by first | rfl | (simp [*]; done) | (simp; omega), rfl⟩
  · have hd : digitZ r = false := by unfold digitZ; simp only [Bool.and_eq_true, Bool.and_eq_false_iff, decide_eq_true_eq, decide_eq_false_iff_not]; omega
    have he : hexZ r = -1 := by unfold hexZ; rw [if_neg (by omega), if_neg (by omega), if_neg (by omega)]
    rw [he]
    rw [hd] at D
    have g1 : 65 ≤ r := by omega
    have g2 : ¬ r ≤ 70 := by omega
    go_enter Tryz.func61, Tryz.ntmps61
    go_wp2_with fail
    go_at_call 29; refine (D.out _).mono ?_; rintro e w1 ⟨rfl, rfl⟩
    go_wp2_with fail
    go_ret
    exact ⟨by first | rfl | (simp [*]; done) | (simp; omega), rfl⟩
  · have hd : digitZ r = false := by unfold digitZ; simp only [Bool.and_eq_true, Bool.and_eq_false_iff, decide_eq_true_eq, decide_eq_false_iff_not]; omega
    have he : hexZ r = -1 := by unfold hexZ; rw [if_neg (by omega), if_neg (by omega), if_neg (by omega)]
    rw [he]
    rw [hd] at D
    go_enter Tryz.func61, Tryz.ntmps61
    go_wp2_with fail
    go_at_call 29; refine (D.out _).mono ?_; rintro e w1 ⟨rfl, rfl⟩
    go_wp2_with fail
    go_ret
    exact ⟨by first | rfl | (simp [*]; done) | (simp; omega), rfl⟩
  · have hd : digitZ r = false := by unfold digitZ; simp only [Bool.and_eq_true, Bool.and_eq_false_iff, decide_eq_true_eq, decide_eq_false_iff_not]; omega
    have he : hexZ r = -1 := by unfold hexZ; rw [if_neg (by omega), if_neg (by omega), if_neg (by omega)]
    rw [he]
    rw [hd] at D
    go_enter Tryz.func61, Tryz.ntmps61
    go_wp2_with fail
    go_at_call 29; refine (D.out _).mono ?_; rintro e w1 ⟨rfl, rfl⟩
    go_wp2_with fail
    go_ret
    exact ⟨by first | rfl | (simp [*]; done) | (simp; omega), rfl⟩
  · have hd : digitZ r = false := by unfold digitZ; simp only [Bool.and_eq_true, Bool.and_eq_false_iff, decide_eq_true_eq, decide_eq_false_iff_not]; omega
    have he : hexZ r = -1 := by unfold hexZ; rw [if_neg (by omega), if_neg (by omega), if_neg (by omega)]
    rw [he]
    rw [hd] at D
    go_enter Tryz.func61, Tryz.ntmps61
    go_wp2_with fail
    go_at_call 29; refine (D.out _).mono ?_; rintro e w1 ⟨rfl, rfl⟩
    go_wp2_with fail
    go_ret
    exact ⟨by first | rfl | (simp [*]; done) | (simp; omega), rfl⟩
end Go.Proofs.YtcmfmfgedhfaeaaGreatDoor
/- The reference: an escape. -/
namespace Go.Proofs.YtcmfmfgedhfaeaaGreatDoor
set_option linter.unusedSimpArgs false
set_option linter.unusedVariables false
open Go.RowKit

def escRV (i : Nat) (t : Nat × Nat) : Value := if t.2 = 0 then .tuple #[.int .u8 0, .int .i64 0, .bool false] else .tuple #[.int .u8 t.1, .int .i64 ((i + 1 + t.2 : Nat) : Int), .bool true]
theorem drop_get (s : ByteArray) (k : Nat) (h : k < s.size) : s.data.toList.drop k = (s[k]'h) :: s.data.toList.drop (k + 1) := by
  rw [get_L s k h, drop_cons _ _ (by rw [← size_list]; exact h)]
theorem hex_nn (r : Int) : hexZ r < 0 ↔ hexZ r = -1 := by
  unfold hexZ
  constructor
  · intro h
    split at h
    · omega
    · split at h
      · omega
      · split at h
        · omega
        · rename_i h1 h2 h3; rw [if_neg h1, if_neg h2, if_neg h3]
  · intro h; omega
section
variable (s : ByteArray) (i : Nat) (hs : s.size ≤ 1048576)
set_option maxRecDepth 100000
set_option maxHeartbeats 2000000
theorem escR_end (h : ¬ i + 1 < s.size) (hi : i ≤ 1048576) (hs : s.size ≤ 1048576) (w : World) : Calls Tryz.prog 46 #[.string s, .int .i64 i] w fun e w' => e = .returned (escRV i (escL (s.data.toList.drop (i + 1)))) ∧ Fresh w w' := by
  have e0 : s.data.toList.drop (i + 1) = [] := List.drop_eq_nil_of_le (by rw [← size_list]; omega)
  rw [e0]
  have l1 : (s.size : Int) ≤ (i : Int) + 1 := by omega
  have hw1 : IntKind.i64.wrap ((i : Int) + 1) = (i : Int) + 1 := IntWalk.i64_in _ (by omega)
  clear hs hi h
  go_enter Tryz.func46, Tryz.ntmps46
  go_wp2_with fail
  go_returns
  exact ⟨rfl, Fresh.refl _⟩
theorem escR_110 (h : i + 1 < s.size) (hs : s.size ≤ 1048576) (b110 : (((s[i + 1]'h).toNat : Int) == 110) = true) (w : World) : Calls Tryz.prog 46 #[.string s, .int .i64 i] w fun e w' => e = .returned (.tuple #[.int .u8 10, .int .i64 ((i : Int) + 2), .bool true]) ∧ Fresh w w' := by
  have l1 : ¬ (s.size : Int) ≤ (i : Int) + 1 := by omega
  have l2 : (i : Int) + 1 < (s.size : Int) := by omega
  have hw1 : IntKind.i64.wrap ((i : Int) + 1) = (i : Int) + 1 := IntWalk.i64_in _ (by omega)
  have hw2 : IntKind.i64.wrap ((i : Int) + 2) = (i : Int) + 2 := IntWalk.i64_in _ (by omega)
  clear hs
  go_enter Tryz.func46, Tryz.ntmps46
  go_wp2_with fail
  go_returns
  exact ⟨by first | rfl | (simp; done) | simp [*], Fresh.refl _⟩
theorem escR_116 (h : i + 1 < s.size) (hs : s.size ≤ 1048576) (b110 : (((s[i + 1]'h).toNat : Int) == 110) = false) (b116 : (((s[i + 1]'h).toNat : Int) == 116) = true) (w : World) : Calls Tryz.prog 46 #[.string s, .int .i64 i] w fun e w' => e = .returned (.tuple #[.int .u8 9, .int .i64 ((i : Int) + 2), .bool true]) ∧ Fresh w w' := by
  have l1 : ¬ (s.size : Int) ≤ (i : Int) + 1 := by omega
  have l2 : (i : Int) + 1 < (s.size : Int) := by omega
  have hw1 : IntKind.i64.wrap ((i : Int) + 1) = (i : Int) + 1 := IntWalk.i64_in _ (by omega)
  have hw2 : IntKind.i64.wrap ((i : Int) + 2) = (i : Int) + 2 := IntWalk.i64_in _ (by omega)
  clear hs
  go_enter Tryz.func46, Tryz.ntmps46
  go_wp2_with fail
  go_returns
  exact ⟨by first | rfl | (simp; done) | simp [*], Fresh.refl _⟩
theorem escR_114 (h : i + 1 < s.size) (hs : s.size ≤ 1048576) (b110 : (((s[i + 1]'h).toNat : Int) == 110) = false) (b116 : (((s[i + 1]'h).toNat : Int) == 116) = false) (b114 : (((s[i + 1]'h).toNat : Int) == 114) = true) (w : World) : Calls Tryz.prog 46 #[.string s, .int .i64 i] w fun e w' => e = .returned (.tuple #[.int .u8 13, .int .i64 ((i : Int) + 2), .bool true]) ∧ Fresh w w' := by
  have l1 : ¬ (s.size : Int) ≤ (i : Int) + 1 := by omega
  have l2 : (i : Int) + 1 < (s.size : Int) := by omega
  have hw1 : IntKind.i64.wrap ((i : Int) + 1) = (i : Int) + 1 := IntWalk.i64_in _ (by omega)
  have hw2 : IntKind.i64.wrap ((i : Int) + 2) = (i : Int) + 2 := IntWalk.i64_in _ (by omega)
  clear hs
  go_enter Tryz.func46, Tryz.ntmps46
  go_wp2_with fail
  go_returns
  exact ⟨by first | rfl | (simp; done) | simp [*], Fresh.refl _⟩
theorem escR_48 (h : i + 1 < s.size) (hs : s.size ≤ 1048576) (b110 : (((s[i + 1]'h).toNat : Int) == 110) = false) (b116 : (((s[i + 1]'h).toNat : Int) == 116) = false) (b114 : (((s[i + 1]'h).toNat : Int) == 114) = false) (b48 : (((s[i + 1]'h).toNat : Int) == 48) = true) (w : World) : Calls Tryz.prog 46 #[.string s, .int .i64 i] w fun e w' => e = .returned (.tuple #[.int .u8 0, .int .i64 ((i : Int) + 2), .bool true]) ∧ Fresh w w' := by
  have l1 : ¬ (s.size : Int) ≤ (i : Int) + 1 := by omega
  have l2 : (i : Int) + 1 < (s.size : Int) := by omega
  have hw1 : IntKind.i64.wrap ((i : Int) + 1) = (i : Int) + 1 := IntWalk.i64_in _ (by omega)
  have hw2 : IntKind.i64.wrap ((i : Int) + 2) = (i : Int) + 2 := IntWalk.i64_in _ (by omega)
  clear hs
  go_enter Tryz.func46, Tryz.ntmps46
  go_wp2_with fail
  go_returns
  exact ⟨by first | rfl | (simp; done) | simp [*], Fresh.refl _⟩
theorem escR_92 (h : i + 1 < s.size) (hs : s.size ≤ 1048576) (b110 : (((s[i + 1]'h).toNat : Int) == 110) = false) (b116 : (((s[i + 1]'h).toNat : Int) == 116) = false) (b114 : (((s[i + 1]'h).toNat : Int) == 114) = false) (b48 : (((s[i + 1]'h).toNat : Int) == 48) = false) (b92 : (((s[i + 1]'h).toNat : Int) == 92) = true) (w : World) : Calls Tryz.prog 46 #[.string s, .int .i64 i] w fun e w' => e = .returned (.tuple #[.int .u8 ((s[i + 1]'h).toNat : Int), .int .i64 ((i : Int) + 2), .bool true]) ∧ Fresh w w' := by
  have l1 : ¬ (s.size : Int) ≤ (i : Int) + 1 := by omega
  have l2 : (i : Int) + 1 < (s.size : Int) := by omega
  have hw1 : IntKind.i64.wrap ((i : Int) + 1) = (i : Int) + 1 := IntWalk.i64_in _ (by omega)
  have hw2 : IntKind.i64.wrap ((i : Int) + 2) = (i : Int) + 2 := IntWalk.i64_in _ (by omega)
  clear hs
  go_enter Tryz.func46, Tryz.ntmps46
  go_wp2_with fail
  go_returns
  exact ⟨by first | rfl | (simp; done) | simp [*], Fresh.refl _⟩
theorem escR_39 (h : i + 1 < s.size) (hs : s.size ≤ 1048576) (b110 : (((s[i + 1]'h).toNat : Int) == 110) = false) (b116 : (((s[i + 1]'h).toNat : Int) == 116) = false) (b114 : (((s[i + 1]'h).toNat : Int) == 114) = false) (b48 : (((s[i + 1]'h).toNat : Int) == 48) = false) (b92 : (((s[i + 1]'h).toNat : Int) == 92) = false) (b39 : (((s[i + 1]'h).toNat : Int) == 39) = true) (w : World) : Calls Tryz.prog 46 #[.string s, .int .i64 i] w fun e w' => e = .returned (.tuple #[.int .u8 ((s[i + 1]'h).toNat : Int), .int .i64 ((i : Int) + 2), .bool true]) ∧ Fresh w w' := by
  have l1 : ¬ (s.size : Int) ≤ (i : Int) + 1 := by omega
  have l2 : (i : Int) + 1 < (s.size : Int) := by omega
  have hw1 : IntKind.i64.wrap ((i : Int) + 1) = (i : Int) + 1 := IntWalk.i64_in _ (by omega)
  have hw2 : IntKind.i64.wrap ((i : Int) + 2) = (i : Int) + 2 := IntWalk.i64_in _ (by omega)
  clear hs
  go_enter Tryz.func46, Tryz.ntmps46
  go_wp2_with fail
  go_returns
  exact ⟨by first | rfl | (simp; done) | simp [*], Fresh.refl _⟩
theorem escR_34 (h : i + 1 < s.size) (hs : s.size ≤ 1048576) (b110 : (((s[i + 1]'h).toNat : Int) == 110) = false) (b116 : (((s[i + 1]'h).toNat : Int) == 116) = false) (b114 : (((s[i + 1]'h).toNat : Int) == 114) = false) (b48 : (((s[i + 1]'h).toNat : Int) == 48) = false) (b92 : (((s[i + 1]'h).toNat : Int) == 92) = false) (b39 : (((s[i + 1]'h).toNat : Int) == 39) = false) (b34 : (((s[i + 1]'h).toNat : Int) == 34) = true) (w : World) : Calls Tryz.prog 46 #[.string s, .int .i64 i] w fun e w' => e = .returned (.tuple #[.int .u8 ((s[i + 1]'h).toNat : Int), .int .i64 ((i : Int) + 2), .bool true]) ∧ Fresh w w' := by
  have l1 : ¬ (s.size : Int) ≤ (i : Int) + 1 := by omega
  have l2 : (i : Int) + 1 < (s.size : Int) := by omega
  have hw1 : IntKind.i64.wrap ((i : Int) + 1) = (i : Int) + 1 := IntWalk.i64_in _ (by omega)
  have hw2 : IntKind.i64.wrap ((i : Int) + 2) = (i : Int) + 2 := IntWalk.i64_in _ (by omega)
  clear hs
  go_enter Tryz.func46, Tryz.ntmps46
  go_wp2_with fail
  go_returns
  exact ⟨by first | rfl | (simp; done) | simp [*], Fresh.refl _⟩
theorem escR_no (h : i + 1 < s.size) (hs : s.size ≤ 1048576) (b110 : (((s[i + 1]'h).toNat : Int) == 110) = false) (b116 : (((s[i + 1]'h).toNat : Int) == 116) = false) (b114 : (((s[i + 1]'h).toNat : Int) == 114) = false) (b48 : (((s[i + 1]'h).toNat : Int) == 48) = false) (b92 : (((s[i + 1]'h).toNat : Int) == 92) = false) (b39 : (((s[i + 1]'h).toNat : Int) == 39) = false) (b34 : (((s[i + 1]'h).toNat : Int) == 34) = false) (b120 : (((s[i + 1]'h).toNat : Int) == 120) = false) (w : World) : Calls Tryz.prog 46 #[.string s, .int .i64 i] w fun e w' => e = .returned (escRV i (0, 0)) ∧ Fresh w w' := by
  have l1 : ¬ (s.size : Int) ≤ (i : Int) + 1 := by omega
  have l2 : (i : Int) + 1 < (s.size : Int) := by omega
  have hw1 : IntKind.i64.wrap ((i : Int) + 1) = (i : Int) + 1 := IntWalk.i64_in _ (by omega)
  clear hs
  go_enter Tryz.func46, Tryz.ntmps46
  go_wp2_with fail
  go_returns
  exact ⟨rfl, Fresh.refl _⟩
theorem escR_120 (h : i + 1 < s.size) (hs : s.size ≤ 1048576) (b110 : (((s[i + 1]'h).toNat : Int) == 110) = false) (b116 : (((s[i + 1]'h).toNat : Int) == 116) = false) (b114 : (((s[i + 1]'h).toNat : Int) == 114) = false) (b48 : (((s[i + 1]'h).toNat : Int) == 48) = false) (b92 : (((s[i + 1]'h).toNat : Int) == 92) = false) (b39 : (((s[i + 1]'h).toNat : Int) == 39) = false) (b34 : (((s[i + 1]'h).toNat : Int) == 34) = false) (b120 : (((s[i + 1]'h).toNat : Int) == 120) = true) (w : World) : Calls Tryz.prog 46 #[.string s, .int .i64 i] w fun e w' => e = .returned (escRV i (escX (s.data.toList.drop (i + 1 + 1)))) ∧ Fresh w w' := by
  have l1 : ¬ (s.size : Int) ≤ (i : Int) + 1 := by omega
  have l2 : (i : Int) + 1 < (s.size : Int) := by omega
  have hw1 : IntKind.i64.wrap ((i : Int) + 1) = (i : Int) + 1 := IntWalk.i64_in _ (by omega)
  have hw2 : IntKind.i64.wrap ((i : Int) + 2) = (i : Int) + 2 := IntWalk.i64_in _ (by omega)
  have hw3 : IntKind.i64.wrap ((i : Int) + 3) = (i : Int) + 3 := IntWalk.i64_in _ (by omega)
  have hw4 : IntKind.i64.wrap ((i : Int) + 4) = (i : Int) + 4 := IntWalk.i64_in _ (by omega)
  by_cases h3 : i + 3 < s.size
  · have h2 : i + 2 < s.size := by omega
    have hd : s.data.toList.drop (i + 1 + 1) = (s[i + 2]'h2) :: (s[i + 3]'h3) :: s.data.toList.drop (i + 4) := by
      rw [drop_get s (i + 2) h2, drop_get s (i + 3) h3]
    rw [hd, escX2]
    have l3 : (i : Int) + 3 < (s.size : Int) := by omega
    have l4 : (i : Int) + 2 < (s.size : Int) := by omega
    have D1 := Lib.hid (fun X => hexR_same ((s[i + 2]'h2).toNat : Int) X)
    have D2 := Lib.hid (fun X => hexR_same ((s[i + 3]'h3).toNat : Int) X)
    have B1 := Lib.hid (hexd (s[i + 2]'h2))
    have B2 := Lib.hid (hexd (s[i + 3]'h3))
    clear hd hs
    generalize hexZ ((s[i + 2]'h2).toNat : Int) = p at *
    generalize hexZ ((s[i + 3]'h3).toNat : Int) = q at *
    by_cases hp : p < 0
    · have p1 : ¬ 0 ≤ p := by omega
      rw [if_pos (Or.inl hp)]
      clear hp
      go_enter Tryz.func46, Tryz.ntmps46
      go_wp2_with fail
      go_at_call 61; refine (D1.out _).mono ?_; rintro e w1 ⟨rfl, rfl⟩
      go_wp2_with fail
      go_returns
      exact ⟨rfl, Fresh.refl _⟩
    · have p1 : 0 ≤ p := by omega
      by_cases hq : q < 0
      · have q1 : ¬ 0 ≤ q := by omega
        rw [if_pos (Or.inr hq)]
        clear hp hq
        go_enter Tryz.func46, Tryz.ntmps46
        go_wp2_with fail
        go_at_call 61; refine (D1.out _).mono ?_; rintro e w1 ⟨rfl, rfl⟩
        go_wp2_with fail
        go_at_call 61; refine (D2.out _).mono ?_; rintro e w2 ⟨rfl, rfl⟩
        go_wp2_with fail
        go_returns
        exact ⟨rfl, Fresh.refl _⟩
      · have q1 : 0 ≤ q := by omega
        rw [if_neg (fun e => e.elim hp hq)]
        have b1 := (B1.out hp).2.2.2.2.2
        have b2 := (B2.out hq).2.2.2.2.2
        have hv : ((p.toNat * 16 + q.toNat : Nat) : Int) = p * 16 + q := by omega
        have hx1 : IntKind.i64.wrap (p * 16) = p * 16 := IntWalk.i64_in _ (by omega)
        have hx2 : IntKind.i64.wrap (p * 16 + q) = p * 16 + q := IntWalk.i64_in _ (by omega)
        have hx3 : IntKind.u8.wrap (p * 16 + q) = p * 16 + q := IntWalk.u8_in _ (by omega)
        have HV := Lib.hid hv
        clear hp hq b1 b2 hv B1 B2
        go_enter Tryz.func46, Tryz.ntmps46
        go_wp2_with fail
        go_at_call 61; refine (D1.out _).mono ?_; rintro e w1 ⟨rfl, rfl⟩
        go_wp2_with fail
        go_at_call 61; refine (D2.out _).mono ?_; rintro e w2 ⟨rfl, rfl⟩
        go_upto_region 18 with fail
        go_quiet ((go_at_call 61; first | (with_reducible exact Calls.quiet_of_same (D1.out _)) | (with_reducible exact Calls.quiet_of_same (D2.out _))))
        go_wp2_with fail
        go_returns
        refine ⟨?_, (Fresh.refl _).drewN _⟩
        have e1 : ((i + 1 + 3 : Nat) : Int) = (i : Int) + 4 := by omega
        unfold escRV
        rw [if_neg (fun e => absurd e (by show ¬ (3 = 0); decide)), HV.out, e1]
        rfl
  · have l3 : ¬ (i : Int) + 3 < (s.size : Int) := by omega
    have e0 : escX (s.data.toList.drop (i + 1 + 1)) = (0, 0) := by
      unfold escX
      rw [if_pos (by rw [List.length_drop, ← size_list]; omega)]
    rw [e0]
    clear hs e0 h3
    go_enter Tryz.func46, Tryz.ntmps46
    go_wp2_with fail
    go_returns
    exact ⟨rfl, Fresh.refl _⟩
end
theorem escR_any (s : ByteArray) (i : Nat) (hs : s.size ≤ 1048576) (hi : i ≤ 1048576) (w : World) : Calls Tryz.prog 46 #[.string s, .int .i64 i] w fun e w' => e = .returned (escRV i (escL (s.data.toList.drop (i + 1)))) ∧ Fresh w w' := by
  by_cases h : i + 1 < s.size
  · have hd := drop_get s (i + 1) h
    rw [hd]
    have yes : ∀ k : Nat, (s[i + 1]'h).toNat = k → (((s[i + 1]'h).toNat : Int) == (k : Int)) = true := fun k hk => by simp [hk]
    have no : ∀ k : Nat, ¬ (s[i + 1]'h).toNat = k → (((s[i + 1]'h).toNat : Int) == (k : Int)) = false := fun k hk => by simp only [beq_eq_false_iff_ne]; omega
    by_cases c110 : (s[i + 1]'h).toNat = 110
    · refine (escR_110 s i h hs  (yes 110 c110) w).mono ?_
      rintro e w' ⟨rfl, f⟩
      refine ⟨?_, f⟩
      have e2 : escL ((s[i + 1]'h) :: s.data.toList.drop (i + 1 + 1)) = (10, 1) := by simp [escL, c110]
      rw [e2]
      rfl
    by_cases c116 : (s[i + 1]'h).toNat = 116
    · refine (escR_116 s i h hs (no 110 c110) (yes 116 c116) w).mono ?_
      rintro e w' ⟨rfl, f⟩
      refine ⟨?_, f⟩
      have e2 : escL ((s[i + 1]'h) :: s.data.toList.drop (i + 1 + 1)) = (9, 1) := by simp [escL, c110, c116]
      rw [e2]
      rfl
    by_cases c114 : (s[i + 1]'h).toNat = 114
    · refine (escR_114 s i h hs (no 110 c110) (no 116 c116) (yes 114 c114) w).mono ?_
      rintro e w' ⟨rfl, f⟩
      refine ⟨?_, f⟩
      have e2 : escL ((s[i + 1]'h) :: s.data.toList.drop (i + 1 + 1)) = (13, 1) := by simp [escL, c110, c116, c114]
      rw [e2]
      rfl
    by_cases c48 : (s[i + 1]'h).toNat = 48
    · refine (escR_48 s i h hs (no 110 c110) (no 116 c116) (no 114 c114) (yes 48 c48) w).mono ?_
      rintro e w' ⟨rfl, f⟩
      refine ⟨?_, f⟩
      have e2 : escL ((s[i + 1]'h) :: s.data.toList.drop (i + 1 + 1)) = (0, 1) := by simp [escL, c110, c116, c114, c48]
      rw [e2]
      rfl
    by_cases c92 : (s[i + 1]'h).toNat = 92
    · refine (escR_92 s i h hs (no 110 c110) (no 116 c116) (no 114 c114) (no 48 c48) (yes 92 c92) w).mono ?_
      rintro e w' ⟨rfl, f⟩
      refine ⟨?_, f⟩
      have e2 : escL ((s[i + 1]'h) :: s.data.toList.drop (i + 1 + 1)) = ((s[i + 1]'h).toNat, 1) := by simp [escL, c110, c116, c114, c48, c92]
      rw [e2]
      rfl
    by_cases c39 : (s[i + 1]'h).toNat = 39
    · refine (escR_39 s i h hs (no 110 c110) (no 116 c116) (no 114 c114) (no 48 c48) (no 92 c92) (yes 39 c39) w).mono ?_
      rintro e w' ⟨rfl, f⟩
      refine ⟨?_, f⟩
      have e2 : escL ((s[i + 1]'h) :: s.data.toList.drop (i + 1 + 1)) = ((s[i + 1]'h).toNat, 1) := by simp [escL, c110, c116, c114, c48, c92, c39]
      rw [e2]
      rfl
    by_cases c34 : (s[i + 1]'h).toNat = 34
    · refine (escR_34 s i h hs (no 110 c110) (no 116 c116) (no 114 c114) (no 48 c48) (no 92 c92) (no 39 c39) (yes 34 c34) w).mono ?_
      rintro e w' ⟨rfl, f⟩
      refine ⟨?_, f⟩
      have e2 : escL ((s[i + 1]'h) :: s.data.toList.drop (i + 1 + 1)) = ((s[i + 1]'h).toNat, 1) := by simp [escL, c110, c116, c114, c48, c92, c39, c34]
      rw [e2]
      rfl
    by_cases c120 : (s[i + 1]'h).toNat = 120
    · have e2 : escL ((s[i + 1]'h) :: s.data.toList.drop (i + 1 + 1)) = escX (s.data.toList.drop (i + 1 + 1)) := by simp [escL, c110, c116, c114, c48, c92, c39, c34, c120]
      rw [e2]
      exact escR_120 s i h hs (no 110 c110) (no 116 c116) (no 114 c114) (no 48 c48) (no 92 c92) (no 39 c39) (no 34 c34) (yes 120 c120) w
    · have e2 : escL ((s[i + 1]'h) :: s.data.toList.drop (i + 1 + 1)) = (0, 0) := by simp [escL, c110, c116, c114, c48, c92, c39, c34, c120]
      rw [e2]
      exact escR_no s i h hs (no 110 c110) (no 116 c116) (no 114 c114) (no 48 c48) (no 92 c92) (no 39 c39) (no 34 c34) (no 120 c120) w
  · exact escR_end s i h hi hs w
end Go.Proofs.YtcmfmfgedhfaeaaGreatDoor
