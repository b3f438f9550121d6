/- brokenAt, of any text. -/
import Derived.Test.YtcmfmfgedhfaeaaGreatDoorLx
namespace Go.Proofs.YtcmfmfgedhfaeaaGreatDoor
set_option linter.unusedSimpArgs false
set_option linter.unusedVariables false
open Go.RowKit

/-- Where the first bytes stand that are no rune. -/
def brokF (s : ByteArray) : Nat → Nat → Int → Int → Option (Int × Int)
  | 0, _, _, _ => none
  | f + 1, pos, l, c => if pos < s.size then (if Utf8.decode s pos = (65533, 1) then some (l, c) else brokF s f (pos + (Utf8.decode s pos).2) (behZ l c (Utf8.decode s pos).1).1 (behZ l c (Utf8.decode s pos).1).2) else none
theorem brokF_end (s : ByteArray) (f pos : Nat) (l c : Int) (h : ¬ pos < s.size) : brokF s f pos l c = none := by
  cases f <;> simp [brokF, h]
theorem dec_err (s : ByteArray) (pos : Nat) (h : pos < s.size) (hr : (Utf8.decode s pos).1 = 65533) :
    (Utf8.decode s pos = (65533, 1) ∧ Lib.hasPrefix (s.data.toList.drop pos) [239, 191, 189] = false) ∨ (Utf8.decode s pos ≠ (65533, 1) ∧ Lib.hasPrefix (s.data.toList.drop pos) [239, 191, 189] = true) := by
  have hp : Lib.hasPrefix (s.data.toList.drop pos) [239, 191, 189] = true ↔ (pos + 2 < s.size ∧ (s.data.toList.getD pos 0).toNat = 239 ∧ (s.data.toList.getD (pos + 1) 0).toNat = 191 ∧ (s.data.toList.getD (pos + 2) 0).toNat = 189) := by
    have e : ∀ (x : UInt8) (k : Nat) (hk : k < 256), x.toNat = k ↔ x = UInt8.ofNat k := fun x k hk => by
      constructor
      · intro hx; apply UInt8.toNat_inj.1; rw [hx]; simp; omega
      · intro hx; rw [hx]; simp; omega
    rw [e _ 239 (by omega), e _ 191 (by omega), e _ 189 (by omega), size_list]
    rw [size_list] at h
    rw [drop_cons _ _ h]
    unfold Lib.hasPrefix
    by_cases h1 : pos + 1 < s.data.toList.length
    · rw [drop_cons _ _ h1]
      by_cases h2 : pos + 2 < s.data.toList.length
      · rw [show pos + 1 + 1 = pos + 2 from rfl, drop_cons _ _ h2]
        simp only [List.isPrefixOf, Bool.and_eq_true, beq_iff_eq, Bool.and_true]
        constructor
        · rintro ⟨a, b, c⟩; exact ⟨h2, a.symm, b.symm, c.symm⟩
        · rintro ⟨_, a, b, c⟩; exact ⟨a.symm, b.symm, c.symm⟩
      · rw [show pos + 1 + 1 = pos + 2 from rfl, List.drop_eq_nil_of_le (by omega : s.data.toList.length ≤ pos + 2)]
        simp only [List.isPrefixOf, Bool.and_false]
        constructor
        · intro h; cases h
        · rintro ⟨a, _⟩; exact absurd a h2
    · rw [List.drop_eq_nil_of_le (by omega : s.data.toList.length ≤ pos + 1)]
      simp only [List.isPrefixOf, Bool.and_false]
      constructor
      · intro h; cases h
      · rintro ⟨a, _⟩; omega
  have b0 := (s.data.toList.getD pos 0).toNat_lt
  have b1 := (s.data.toList.getD (pos + 1) 0).toNat_lt
  have b2 := (s.data.toList.getD (pos + 2) 0).toNat_lt
  have key : (Utf8.decode s pos = (65533, 1) ∧ ¬ (pos + 2 < s.size ∧ (s.data.toList.getD pos 0).toNat = 239 ∧ (s.data.toList.getD (pos + 1) 0).toNat = 191 ∧ (s.data.toList.getD (pos + 2) 0).toNat = 189)) ∨ (Utf8.decode s pos ≠ (65533, 1) ∧ (pos + 2 < s.size ∧ (s.data.toList.getD pos 0).toNat = 239 ∧ (s.data.toList.getD (pos + 1) 0).toNat = 191 ∧ (s.data.toList.getD (pos + 2) 0).toNat = 189)) := by
    revert hr
    unfold Utf8.decode Utf8.runeError Utf8.valid
    simp only [get_getD, Nat.add_zero]
    generalize (s.data.toList.getD pos 0).toNat = x0 at *
    generalize (s.data.toList.getD (pos + 1) 0).toNat = x1 at *
    generalize (s.data.toList.getD (pos + 2) 0).toNat = x2 at *
    generalize (s.data.toList.getD (pos + 3) 0).toNat = x3 at *
    clear hp
    by_cases c0 : x0 < 128
    · rw [if_pos c0]; intro hr; simp only at hr; omega
    · rw [if_neg c0]
      by_cases c1 : (x0 / 32 == 6 && (decide (pos + 1 < s.size) && x1 / 64 == 2)) = true
      · rw [if_pos c1]
        simp only [Bool.and_eq_true, beq_iff_eq, decide_eq_true_eq] at c1
        split
        · intro hr; simp only at hr; omega
        · intro _; exact Or.inl ⟨rfl, by omega⟩
      · rw [if_neg c1]
        by_cases c2 : (x0 / 16 == 14 && (decide (pos + 1 < s.size) && x1 / 64 == 2) && (decide (pos + 2 < s.size) && x2 / 64 == 2)) = true
        · rw [if_pos c2]
          simp only [Bool.and_eq_true, beq_iff_eq, decide_eq_true_eq] at c2
          split
          · intro hr
            simp only at hr
            refine Or.inr ⟨?_, by omega⟩
            intro e
            have := congrArg Prod.snd e
            simp at this
          · rename_i hc
            intro _
            refine Or.inl ⟨rfl, fun hh => hc ?_⟩
            obtain ⟨_, rfl, rfl, rfl⟩ := hh
            decide
        · rw [if_neg c2]
          simp only [Bool.and_eq_true, beq_iff_eq, decide_eq_true_eq] at c2
          split
          · rename_i c3
            simp only [Bool.and_eq_true, beq_iff_eq, decide_eq_true_eq] at c3
            split
            · rename_i h4
              simp only [Bool.and_eq_true, decide_eq_true_eq] at h4
              intro hr; simp only at hr; omega
            · intro _; exact Or.inl ⟨rfl, by omega⟩
          · intro _; exact Or.inl ⟨rfl, by omega⟩
  rcases key with ⟨a, b⟩ | ⟨a, b⟩
  · exact Or.inl ⟨a, by rw [← hp] at b; simpa using b⟩
  · exact Or.inr ⟨a, hp.2 b⟩
def brokV : Option (Int × Int) → Value
  | some p => .tuple #[.agg #[.int .i64 p.1, .int .i64 p.2], .bool true]
  | none => .tuple #[.agg #[.int .i64 0, .int .i64 0], .bool false]
set_option maxRecDepth 100000 in
set_option maxHeartbeats 8000000 in
theorem broken_any (s : ByteArray) (hs : s.size ≤ 1048576) (w : World) : Calls Tryz.prog 15 #[.string s] w fun e w' => e = .returned (brokV (brokF s s.size 0 1 1)) ∧ Fresh w w' := by
  obtain ⟨R, hR⟩ : ∃ R, R = brokF s s.size 0 1 1 := ⟨_, rfl⟩
  rw [← hR]
  have HR := Lib.hid hR
  clear hR
  go_enter Tryz.func15, Tryz.ntmps15
  go_wp2_with fail
  go_at_call 23; refine (first_any _).mono ?_; rintro e w1 ⟨rfl, f1⟩
  have F1 : Hid (Fresh w w1) := Lib.hid ((((Fresh.refl w).alloc _ _)).trans f1)
  have R1 : Hid (Blk w1 w.heap.size [.int .i64 0, .int .i64 0]) := Lib.hid ((Blk.new w #[.int .i64 0, .int .i64 0] 25).fresh f1)
  clear f1
  have HZ : Hid (w.heap.size < w1.heap.size) := Lib.hid R1.out.2.2
  go_upto_region 2 with fail
  have F2 : Hid (Fresh w (w1.alloc (.cells #[.int .i64 1, .int .i64 1] 25))) := Lib.hid (F1.out.alloc _ _)
  have R2 : Hid (Blk (w1.alloc (.cells #[.int .i64 1, .int .i64 1] 25)) w.heap.size [.int .i64 0, .int .i64 0]) := Lib.hid (R1.out.fresh ((Fresh.refl w1).alloc _ _))
  have A2 : Hid (Blk (w1.alloc (.cells #[.int .i64 1, .int .i64 1] 25)) w1.heap.size [.int .i64 1, .int .i64 1]) := Lib.hid (Blk.new w1 #[.int .i64 1, .int .i64 1] 25)
  have HI : Hid ((w1.alloc (.cells #[.int .i64 1, .int .i64 1] 25)).heap.size = w1.heap.size + 1) := Lib.hid (by simp)
  clear F1 R1
  generalize (w1.alloc (.cells #[.int .i64 1, .int .i64 1] 25)) = W2 at *
  generalize w1.heap.size = A at *
  have hk0 : Hid ((W2.iter s 0).heap[W2.heap.size]? = some (.stringIter s 0)) := Lib.hid (World.iter_heap W2 s 0)
  have F3 : Hid (Fresh W2 (W2.iter s 0)) := Lib.hid ((Fresh.refl _).obj _)
  have G3 : Hid (Fresh w (W2.iter s 0)) := Lib.hid (F2.out.trans F3.out)
  have A3 := Lib.hid (A2.out.fresh F3.out)
  have R3 := Lib.hid (R2.out.fresh F3.out)
  clear A2 R2 F2 F3
  go_wp2_with fail
  go_loopw [5, 6] (fun _ _ wr => ∃ (pos k f : Nat) (l c : Int), s.size ≤ pos + f ∧ Hid (brokF s f pos l c = R) ∧ k ≤ pos ∧ k ≤ s.size ∧ (1 ≤ l ∧ l ≤ 1 + k) ∧ (1 ≤ c ∧ c ≤ 1 + k) ∧ Hid (wr.heap[W2.heap.size]? = some (.stringIter s pos)) ∧ Hid (Blk wr A [.int .i64 l, .int .i64 c]) ∧ Hid (Blk wr w.heap.size [.int .i64 0, .int .i64 0]) ∧ Hid (Fresh w wr)) (fun _ _ wr => s.size - wr.iterPos W2.heap.size)
  case atStart => exact ⟨0, 0, s.size, 1, 1, by omega, Lib.hid HR.out.symm, by omega, by omega, by omega, by omega, hk0, A3, R3, G3⟩
  case round =>
    obtain ⟨pos, k, f, l, c, hpf, HS, hkp, hps, hl, hc, HK, HA, HR0, HG⟩ := hrel
    clear hk0 A3 R3 G3
    have HMU : Hid (wr.iterPos W2.heap.size = pos) := Lib.hid (by simp [World.iterPos, HK.out])
    by_cases hp : pos < s.size
    · have hnext : ∀ ty, (Instr.next (.pointer (some ⟨W2.heap.size, 0, none⟩)) true ty).run Tryz.prog wr = _ := fun ty => Lib.run_next_any_at wr W2.heap.size s pos ty HK.out hp
      have HK1 := Lib.hid (Lib.iterAt_heap wr W2.heap.size s pos (pos + (Utf8.decode s pos).2) HK.out)
      have hks : W2.heap.size < wr.heap.size := (Array.getElem?_eq_some_iff.1 HK.out).1
      have kept : ∀ (b : Nat) (vs : List Value), b ≠ W2.heap.size → Blk wr b vs → Blk (wr.iterAt W2.heap.size s (pos + (Utf8.decode s pos).2)) b vs := fun b vs hb h => by
        have e := Lib.iterAt_other wr W2.heap.size b s (pos + (Utf8.decode s pos).2) hb
        refine ⟨fun i v hv => ?_, fun o => ?_, by rw [Lib.iterAt_size]; exact h.2.2⟩
        · have := h.1 i v hv
          simp only [World.cell?, e] at this ⊢
          exact this
        · have := h.2.1 o
          simp only [World.frozen?, e] at this ⊢
          exact this
      have HA1 := Lib.hid (kept A _ (by have := HI.out; omega) HA.out)
      have HR1 := Lib.hid (kept w.heap.size _ (by have := HI.out; have := HZ.out; omega) HR0.out)
      have HG1 : Hid (Fresh w (wr.iterAt W2.heap.size s (pos + (Utf8.decode s pos).2))) := Lib.hid ⟨Lib.below_iterAt HG.out.below (by have := HI.out; have := HZ.out; omega) s _⟩
      have HWP := Lib.hid (Lib.decode_width_pos s pos hp)
      obtain ⟨f, rfl⟩ : ∃ g, f = g + 1 := ⟨f - 1, by omega⟩
      have HERR := Lib.hid (dec_err s pos hp)
      have HS1 : Hid ((if Utf8.decode s pos = (65533, 1) then some (l, c) else brokF s f (pos + (Utf8.decode s pos).2) (behZ l c (Utf8.decode s pos).1).1 (behZ l c (Utf8.decode s pos).1).2) = R) := Lib.hid (by have := HS.out; simpa only [brokF, hp, if_true] using this)
      have hpI : (pos : Int) ≤ (s.size : Int) := by omega
      have P24 : Hid (∀ X, Calls Tryz.prog 24 #[.string (s.extract pos s.size), .string ⟨#[239, 191, 189]⟩] X fun e w' => e = .returned (.bool (Lib.hasPrefix (s.data.toList.drop pos) [239, 191, 189])) ∧ X = w') := Lib.hid (fun X => (Tryz.strings_HasPrefix (s.extract pos s.size) ⟨#[239, 191, 189]⟩ X).mono (fun e w' ⟨p, q⟩ => ⟨by rw [p, Lib.extract_to_end], q.symm⟩))
      generalize Lib.hasPrefix (s.data.toList.drop pos) [239, 191, 189] = hpx at *
      clear kept hks HK HA HR0 HG HS
      generalize wr.iterAt W2.heap.size s (pos + (Utf8.decode s pos).2) = W1 at *
      by_cases hru : (Utf8.decode s pos).1 = 65533
      · have brr : ((((Utf8.decode s pos).1 : Nat) : Int) == 65533) = true := by rw [hru]; rfl
        rcases HERR.out hru with ⟨hd, hx⟩ | ⟨hd, hx⟩
        · subst hx
          have HE : Hid (some (l, c) = R) := Lib.hid (by rw [← HS1.out, if_pos hd])
          clear HS1 HERR hd hru
          generalize (Utf8.decode s pos).2 = wd at *
          generalize ((Utf8.decode s pos).1 : Int) = r at *
          go_wp2_with fail
          go_at_call 24; refine (P24.out _).mono ?_; rintro e w' ⟨rfl, rfl⟩
          have r0 := HA1.out.1 0 _ rfl
          have r1 := HA1.out.1 1 _ rfl
          have q0 := HR1.out.1 0 _ rfl
          have q1 := HR1.out.1 1 _ rfl
          have qf := HR1.out.2.1
          go_wp2_with fail
          refine bodyPost_ret (v := ?_) ?_ rfl ?_; rotate_left 1; focus (simp [results, Tryz.results15, go_sem, *]; (try rfl); done)
          exact ⟨by rw [← HE.out]; rfl, (HG1.out.setCell (Nat.le_refl _) _).setCell (Nat.le_refl _) _⟩
        · subst hx
          have HE : Hid (brokF s f (pos + (Utf8.decode s pos).2) (behZ l c (Utf8.decode s pos).1).1 (behZ l c (Utf8.decode s pos).1).2 = R) := Lib.hid (by rw [← HS1.out, if_neg hd])
          clear HS1 HERR hd hru
          generalize (Utf8.decode s pos).2 = wd at *
          generalize ((Utf8.decode s pos).1 : Int) = r at *
          have r0 := HA1.out.1 0 _ rfl
          have r1 := HA1.out.1 1 _ rfl
          go_wp2_with fail
          go_at_call 24; refine (P24.out _).mono ?_; rintro e w' ⟨rfl, rfl⟩
          go_wp2_with fail
          clear r0 r1
          go_at_call 25; refine (behind_any l c r (by omega) (by omega) _).mono ?_; rintro e w4 ⟨rfl, f4⟩
          have HA4 := Lib.hid (HA1.out.fresh f4)
          have HR4 := Lib.hid (HR1.out.fresh f4)
          have HG4 := Lib.hid (HG1.out.trans f4)
          have HK4 : Hid (w4.heap[W2.heap.size]? = some (.stringIter s (pos + wd))) := Lib.hid ((f4.below.block _ (Array.getElem?_eq_some_iff.1 HK1.out).1).trans HK1.out)
          have HB := Lib.hid (behZ_lo l c r k hl hc)
          have NA : Hid (A ≠ W2.heap.size ∧ w.heap.size ≠ A ∧ w.heap.size ≤ A) := Lib.hid (by have := HI.out; have := HZ.out; omega)
          clear f4 HA1 HR1 HG1 HK1 hnext brr
          generalize (behZ l c r).1 = l' at *
          generalize (behZ l c r).2 = c' at *
          have r0 := HA4.out.1 0 _ rfl
          have r1 := HA4.out.1 1 _ rfl
          have rf := HA4.out.2.1
          go_wp2_with fail
          have HK5 : Hid (((w4.setCell ⟨A, 0, none⟩ (.int .i64 l')).setCell ⟨A, 1, none⟩ (.int .i64 c')).heap[W2.heap.size]? = some (.stringIter s (pos + wd))) := Lib.hid (by rw [Below.heap_setCell _ _ _ _ (by simpa using Ne.symm NA.out.1), Below.heap_setCell _ _ _ _ (by simpa using Ne.symm NA.out.1)]; exact HK4.out)
          have HG5 : Hid (Fresh w ((w4.setCell ⟨A, 0, none⟩ (.int .i64 l')).setCell ⟨A, 1, none⟩ (.int .i64 c'))) := Lib.hid ((HG4.out.setCell NA.out.2.2 _).setCell NA.out.2.2 _)
          have HA5 : Hid (Blk ((w4.setCell ⟨A, 0, none⟩ (.int .i64 l')).setCell ⟨A, 1, none⟩ (.int .i64 c')) A [.int .i64 l', .int .i64 c']) := Lib.hid (HA4.out.set2 _ _)
          have HR5 : Hid (Blk ((w4.setCell ⟨A, 0, none⟩ (.int .i64 l')).setCell ⟨A, 1, none⟩ (.int .i64 c')) w.heap.size [.int .i64 0, .int .i64 0]) := Lib.hid (HR4.out.other2 NA.out.2.1 _ _ _ _)
          clear r0 r1 rf HK4 HG4 HA4 HR4
          generalize ((w4.setCell ⟨A, 0, none⟩ (.int .i64 l')).setCell ⟨A, 1, none⟩ (.int .i64 c')) = W5 at *
          go_roundw
          case rel => exact ⟨pos + wd, k + 1, f, l', c', by have := HWP.out; omega, HE, by have := HWP.out; omega, by omega, HB.out.1, HB.out.2, HK5, HA5, HR5, HG5⟩
          case measure => have h1 : W5.iterPos W2.heap.size = pos + wd := (by simp [World.iterPos, HK5.out]); have := HWP.out; have := HMU.out; omega
      · have brr : ((((Utf8.decode s pos).1 : Nat) : Int) == 65533) = false := by simp only [beq_eq_false_iff_ne]; omega
        have HE : Hid (brokF s f (pos + (Utf8.decode s pos).2) (behZ l c (Utf8.decode s pos).1).1 (behZ l c (Utf8.decode s pos).1).2 = R) := Lib.hid (by rw [← HS1.out, if_neg (fun e => hru (by rw [e]))])
        clear HS1 HERR hru
        generalize (Utf8.decode s pos).2 = wd at *
        generalize ((Utf8.decode s pos).1 : Int) = r at *
        have r0 := HA1.out.1 0 _ rfl
        have r1 := HA1.out.1 1 _ rfl
        go_wp2_with fail
        clear r0 r1
        go_at_call 25; refine (behind_any l c r (by omega) (by omega) _).mono ?_; rintro e w4 ⟨rfl, f4⟩
        have HA4 := Lib.hid (HA1.out.fresh f4)
        have HR4 := Lib.hid (HR1.out.fresh f4)
        have HG4 := Lib.hid (HG1.out.trans f4)
        have HK4 : Hid (w4.heap[W2.heap.size]? = some (.stringIter s (pos + wd))) := Lib.hid ((f4.below.block _ (Array.getElem?_eq_some_iff.1 HK1.out).1).trans HK1.out)
        have HB := Lib.hid (behZ_lo l c r k hl hc)
        have NA : Hid (A ≠ W2.heap.size ∧ w.heap.size ≠ A ∧ w.heap.size ≤ A) := Lib.hid (by have := HI.out; have := HZ.out; omega)
        clear f4 HA1 HR1 HG1 HK1 hnext brr
        generalize (behZ l c r).1 = l' at *
        generalize (behZ l c r).2 = c' at *
        have r0 := HA4.out.1 0 _ rfl
        have r1 := HA4.out.1 1 _ rfl
        have rf := HA4.out.2.1
        go_wp2_with fail
        have HK5 : Hid (((w4.setCell ⟨A, 0, none⟩ (.int .i64 l')).setCell ⟨A, 1, none⟩ (.int .i64 c')).heap[W2.heap.size]? = some (.stringIter s (pos + wd))) := Lib.hid (by rw [Below.heap_setCell _ _ _ _ (by simpa using Ne.symm NA.out.1), Below.heap_setCell _ _ _ _ (by simpa using Ne.symm NA.out.1)]; exact HK4.out)
        have HG5 : Hid (Fresh w ((w4.setCell ⟨A, 0, none⟩ (.int .i64 l')).setCell ⟨A, 1, none⟩ (.int .i64 c'))) := Lib.hid ((HG4.out.setCell NA.out.2.2 _).setCell NA.out.2.2 _)
        have HA5 : Hid (Blk ((w4.setCell ⟨A, 0, none⟩ (.int .i64 l')).setCell ⟨A, 1, none⟩ (.int .i64 c')) A [.int .i64 l', .int .i64 c']) := Lib.hid (HA4.out.set2 _ _)
        have HR5 : Hid (Blk ((w4.setCell ⟨A, 0, none⟩ (.int .i64 l')).setCell ⟨A, 1, none⟩ (.int .i64 c')) w.heap.size [.int .i64 0, .int .i64 0]) := Lib.hid (HR4.out.other2 NA.out.2.1 _ _ _ _)
        clear r0 r1 rf HK4 HG4 HA4 HR4
        generalize ((w4.setCell ⟨A, 0, none⟩ (.int .i64 l')).setCell ⟨A, 1, none⟩ (.int .i64 c')) = W5 at *
        go_roundw
        case rel => exact ⟨pos + wd, k + 1, f, l', c', by have := HWP.out; omega, HE, by have := HWP.out; omega, by omega, HB.out.1, HB.out.2, HK5, HA5, HR5, HG5⟩
        case measure => have h1 : W5.iterPos W2.heap.size = pos + wd := (by simp [World.iterPos, HK5.out]); have := HWP.out; have := HMU.out; omega
    · have hnext : ∀ ty, (Instr.next (.pointer (some ⟨W2.heap.size, 0, none⟩)) true ty).run Tryz.prog wr = _ := fun ty => Lib.run_next_end_at wr W2.heap.size s pos ty HK.out hp
      have HE : Hid (none = R) := Lib.hid (by rw [← HS.out, brokF_end _ _ _ _ _ hp])
      have r0 := HR0.out.1 0 _ rfl
      have r1 := HR0.out.1 1 _ rfl
      have rf := HR0.out.2.1
      go_wp2_with fail
      refine bodyPost_ret (v := ?_) ?_ rfl ?_; rotate_left 1; focus (simp [results, Tryz.results15, go_sem, *]; (try rfl); done)
      exact ⟨by rw [← HE.out]; rfl, (HG.out.setCell (Nat.le_refl _) _).setCell (Nat.le_refl _) _⟩
end Go.Proofs.YtcmfmfgedhfaeaaGreatDoor
