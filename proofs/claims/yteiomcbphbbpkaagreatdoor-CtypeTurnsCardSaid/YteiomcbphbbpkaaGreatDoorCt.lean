/- How great types are. -/
import Derived.Test.YteiomcbphbbpkaaGreatDoorCs
import Derived.Deep.QuietTactic
import Derived.BigQuiet
namespace Go.Proofs.YteiomcbphbbpkaaGreatDoor
set_option linter.unusedSimpArgs false
set_option linter.unusedVariables false
open Go.RowKit
variable {ok : Nat → Prop}

attribute [local go_sem] as_87_87 as_87_36 as_87_45 as_87_56 as_87_66 as_87_58 as_87_94 as_36_87 as_36_36 as_36_45 as_36_56 as_36_66 as_36_58 as_36_94 as_45_87 as_45_36 as_45_45 as_45_56 as_45_66 as_45_58 as_45_94 as_56_87 as_56_36 as_56_45 as_56_56 as_56_66 as_56_58 as_56_94 as_66_87 as_66_36 as_66_45 as_66_56 as_66_66 as_66_58 as_66_94 as_58_87 as_58_36 as_58_45 as_58_56 as_58_66 as_58_58 as_58_94 as_94_87 as_94_36 as_94_45 as_94_56 as_94_66 as_94_58 as_94_94 as_nil_87 as_nil_36 as_nil_45 as_nil_56 as_nil_66 as_nil_58 as_nil_94
/-- What layouts have that were laid. -/
def Good (f : Nat → La) (k : Nat) : Prop := ∀ i, i < k → 0 ≤ (f i).sz ∧ (f i).sz ≤ 1048576 ∧ 1 ≤ (f i).al ∧ (f i).al ≤ 8
def recSize (f : Nat → La) (k : Nat) (nm : ByteArray) (un : Bool) : Int × Int :=
  match (List.range k).find? (fun i => (f i).nm.toList == nm.toList) with
  | some i => if (f i).un == un then ((f i).sz, (f i).al) else (0, 0)
  | none => (0, 0)
theorem recSize_some {f : Nat → La} {k i : Nat} {nm : ByteArray} (un : Bool) (hi : i < k) (h : ((f i).nm.toList == nm.toList) = true) (hj : ∀ j, j < i → ((f j).nm.toList == nm.toList) = false) :
    recSize f k nm un = if (f i).un == un then ((f i).sz, (f i).al) else (0, 0) := by
  have : (List.range k).find? (fun i => (f i).nm.toList == nm.toList) = some i := by
    rw [List.find?_range_eq_some]
    exact ⟨h, by simpa using hi, fun j hj' => by simpa using hj j hj'⟩
  unfold recSize
  rw [this]
theorem recSize_none {f : Nat → La} {k : Nat} {nm : ByteArray} (un : Bool) (h : ∀ j, j < k → ((f j).nm.toList == nm.toList) = false) : recSize f k nm un = (0, 0) := by
  have : (List.range k).find? (fun i => (f i).nm.toList == nm.toList) = none := by
    rw [List.find?_eq_none]
    intro j hj
    simpa using h j (by simpa using hj)
  unfold recSize
  rw [this]
def arrS (s : Int × Int) (l : Int) : Int × Int := if s.2 = 0 ∨ l < 1 then (0, 0) else if 0 < s.1 ∧ 1048576 / s.1 < l then (0, 0) else (l * s.1, s.2)
def sizeH (f : Nat → La) (k : Nat) (h : Hd) (s : Int × Int) : Int × Int :=
  if h.kind = 5 then arrS s h.len else if h.kind = 6 then recSize f k h.name h.flag else (csize (chunkOf h), csize (chunkOf h))
/-- The sizes of a row's first. -/
def Tys.size0 (f : Nat → La) (k : Nat) : Tys → Int × Int
  | .nil => (0, 0)
  | .cons h ks _ => sizeH f k h (ks.size0 f k)
theorem csize_bd (c : Int) : 0 ≤ csize c ∧ csize c ≤ 8 := by
  unfold csize
  repeat' split
  all_goals omega
theorem arrS_bd (s : Int × Int) (l : Int) (h0 : 0 ≤ s.1) (h1 : 0 ≤ s.2 ∧ s.2 ≤ 8) : 0 ≤ (arrS s l).1 ∧ (arrS s l).1 ≤ 1048576 ∧ 0 ≤ (arrS s l).2 ∧ (arrS s l).2 ≤ 8 := by
  unfold arrS
  split
  · simp
  · rename_i ha
    split
    · simp
    · rename_i hb
      refine ⟨Int.mul_nonneg (by omega) h0, ?_, h1.1, h1.2⟩
      show l * s.1 ≤ 1048576
      by_cases hs : 0 < s.1
      · have hl : l ≤ 1048576 / s.1 := by omega
        exact (Int.le_ediv_iff_mul_le hs).1 hl
      · have : s.1 = 0 := by omega
        rw [this]; simp
theorem recSize_bd {f : Nat → La} {k : Nat} (hg : Good f k) (nm : ByteArray) (un : Bool) : 0 ≤ (recSize f k nm un).1 ∧ (recSize f k nm un).1 ≤ 1048576 ∧ 0 ≤ (recSize f k nm un).2 ∧ (recSize f k nm un).2 ≤ 8 := by
  unfold recSize
  split
  · rename_i i hi
    have hk : i < k := by
      have := List.mem_of_find?_eq_some hi
      simpa using this
    have := hg i hk
    split
    · simp; omega
    · simp
  · simp
theorem sizeH_bd {f : Nat → La} {k : Nat} (hg : Good f k) (h : Hd) (s : Int × Int) (h0 : 0 ≤ s.1) (h1 : 0 ≤ s.2 ∧ s.2 ≤ 8) : 0 ≤ (sizeH f k h s).1 ∧ (sizeH f k h s).1 ≤ 1048576 ∧ 0 ≤ (sizeH f k h s).2 ∧ (sizeH f k h s).2 ≤ 8 := by
  unfold sizeH
  split
  · exact arrS_bd s h.len h0 h1
  · split
    · exact recSize_bd hg _ _
    · have := csize_bd (chunkOf h); simp; omega
theorem size0_bd {f : Nat → La} {k : Nat} (hg : Good f k) : ∀ ks : Tys, 0 ≤ (ks.size0 f k).1 ∧ (ks.size0 f k).1 ≤ 1048576 ∧ 0 ≤ (ks.size0 f k).2 ∧ (ks.size0 f k).2 ≤ 8
  | .nil => by simp [Tys.size0]
  | .cons h ks _ => sizeH_bd hg h _ (size0_bd hg ks).1 (size0_bd hg ks).2.2
section
variable {ok : Nat → Prop} (f : Nat → La) (lp : Option Addr) (k lc : Nat) (h : Hd) (ks : Tys) (p : Option Addr) (n cap : Nat) (w0 w : World) (hf : Fresh w0 w) (hks : Kids ok w0 ks p n cap) (hk0 : k ≤ lc) (hkc : lc ≤ maxLen) (hl : LaysAt w0 lp k f)
include hf hks
theorem size_leaf (s : Int × Int) (h5 : h.kind ≠ 5) (h6 : h.kind ≠ 6) : Calls Tryz.prog 14 #[.agg #[.int .i64 h.kind, .int .i64 h.size, .int .i64 h.len, .bool h.flag, .string h.name, .slice p n cap], .slice lp k lc] w fun e w' => e = .returned (.tuple #[.int .i64 (sizeH f k h s).1, .int .i64 (sizeH f k h s).2]) ∧ Fresh w w' := by
  have HK := Lib.hid hks
  have HF := Lib.hid hf
  have HE : Hid (sizeH f k h s = (csize (chunkOf h), csize (chunkOf h))) := Lib.hid (by unfold sizeH; rw [if_neg h5, if_neg h6])
  rw [HE.out]
  clear hks hf
  rcases kinds h with hkd | hkd | hkd | hkd | hkd | hkd | hkd | hkd
  · have HKD := Lib.hid hkd
    clear hkd h5 h6
    go_enter Tryz.func14, Tryz.ntmps14
    go_wp2_with fail
    go_at_call 32; refine (view1 h p n cap _ HKD.out).mono ?_; rintro e w1 ⟨rfl, h1⟩
    have R := (Blk.new w #[.int .i64 h.kind, .int .i64 h.size, .int .i64 h.len, .bool h.flag, .string h.name, .slice p n cap] 25).fresh h1
    have H1 := Lib.hid (show Fresh w w1 from (by (repeat' first | with_reducible exact Fresh.refl _ | with_reducible assumption | with_reducible refine Fresh.alloc ?_ _ _ | with_reducible refine Fresh.drew ?_ | with_reducible refine Fresh.drewN ?_ _ | with_reducible refine Fresh.setCell ?_ ?_ _ | with_reducible refine Fresh.trans ?_ (by assumption) | (simp; done) | (simp; omega))))
    have r0 := (R).1 0 _ rfl; have r1 := (R).1 1 _ rfl; have r2 := (R).1 2 _ rfl; have r3 := (R).1 3 _ rfl; have r4 := (R).1 4 _ rfl; have r5 := (R).1 5 _ rfl; have rf := (R).2.1; have rz := (R).2.2
    clear R h1
    go_wp2_with fail
    go_at_call 24; refine (chunk_any h ks p n cap w0 _ (HF.out.trans H1.out) HK.out).mono ?_; rintro e w2 ⟨rfl, h2⟩
    clear r0 r1 r2 r3 r4 r5 rf rz
    go_wp2_with fail
    go_at_call 35; refine (csize_any _ _).mono ?_; rintro e w3 ⟨rfl, h3⟩
    go_wp2_with fail
    go_returns
    exact ⟨rfl, H1.out.trans (h2.trans h3)⟩
  · have HKD := Lib.hid hkd
    clear hkd h5 h6
    go_enter Tryz.func14, Tryz.ntmps14
    go_wp2_with fail
    go_at_call 32; refine (view2 h p n cap _ HKD.out).mono ?_; rintro e w1 ⟨rfl, h1⟩
    have R := (Blk.new w #[.int .i64 h.kind, .int .i64 h.size, .int .i64 h.len, .bool h.flag, .string h.name, .slice p n cap] 25).fresh h1
    have H1 := Lib.hid (show Fresh w w1 from (by (repeat' first | with_reducible exact Fresh.refl _ | with_reducible assumption | with_reducible refine Fresh.alloc ?_ _ _ | with_reducible refine Fresh.drew ?_ | with_reducible refine Fresh.drewN ?_ _ | with_reducible refine Fresh.setCell ?_ ?_ _ | with_reducible refine Fresh.trans ?_ (by assumption) | (simp; done) | (simp; omega))))
    have r0 := (R).1 0 _ rfl; have r1 := (R).1 1 _ rfl; have r2 := (R).1 2 _ rfl; have r3 := (R).1 3 _ rfl; have r4 := (R).1 4 _ rfl; have r5 := (R).1 5 _ rfl; have rf := (R).2.1; have rz := (R).2.2
    clear R h1
    go_wp2_with fail
    go_at_call 24; refine (chunk_any h ks p n cap w0 _ (HF.out.trans H1.out) HK.out).mono ?_; rintro e w2 ⟨rfl, h2⟩
    clear r0 r1 r2 r3 r4 r5 rf rz
    go_wp2_with fail
    go_at_call 35; refine (csize_any _ _).mono ?_; rintro e w3 ⟨rfl, h3⟩
    go_wp2_with fail
    go_returns
    exact ⟨rfl, H1.out.trans (h2.trans h3)⟩
  · have HKD := Lib.hid hkd
    clear hkd h5 h6
    go_enter Tryz.func14, Tryz.ntmps14
    go_wp2_with fail
    go_at_call 32; refine (view3 h p n cap _ HKD.out).mono ?_; rintro e w1 ⟨rfl, h1⟩
    have R := (Blk.new w #[.int .i64 h.kind, .int .i64 h.size, .int .i64 h.len, .bool h.flag, .string h.name, .slice p n cap] 25).fresh h1
    have H1 := Lib.hid (show Fresh w w1 from (by (repeat' first | with_reducible exact Fresh.refl _ | with_reducible assumption | with_reducible refine Fresh.alloc ?_ _ _ | with_reducible refine Fresh.drew ?_ | with_reducible refine Fresh.drewN ?_ _ | with_reducible refine Fresh.setCell ?_ ?_ _ | with_reducible refine Fresh.trans ?_ (by assumption) | (simp; done) | (simp; omega))))
    have r0 := (R).1 0 _ rfl; have r1 := (R).1 1 _ rfl; have r2 := (R).1 2 _ rfl; have r3 := (R).1 3 _ rfl; have r4 := (R).1 4 _ rfl; have r5 := (R).1 5 _ rfl; have rf := (R).2.1; have rz := (R).2.2
    clear R h1
    go_wp2_with fail
    go_at_call 24; refine (chunk_any h ks p n cap w0 _ (HF.out.trans H1.out) HK.out).mono ?_; rintro e w2 ⟨rfl, h2⟩
    clear r0 r1 r2 r3 r4 r5 rf rz
    go_wp2_with fail
    go_at_call 35; refine (csize_any _ _).mono ?_; rintro e w3 ⟨rfl, h3⟩
    go_wp2_with fail
    go_returns
    exact ⟨rfl, H1.out.trans (h2.trans h3)⟩
  · have HKD := Lib.hid hkd
    clear hkd h5 h6
    go_enter Tryz.func14, Tryz.ntmps14
    go_wp2_with fail
    go_at_call 32; refine (view4 h ks p n cap _ w0 (HF.out.trans (by (repeat' first | with_reducible exact Fresh.refl _ | with_reducible assumption | with_reducible refine Fresh.alloc ?_ _ _ | with_reducible refine Fresh.drew ?_ | with_reducible refine Fresh.drewN ?_ _ | with_reducible refine Fresh.setCell ?_ ?_ _ | with_reducible refine Fresh.trans ?_ (by assumption) | (simp; done) | (simp; omega)))) HK.out HKD.out).mono ?_; rintro e w1 ⟨⟨p1, n1, cap1, rfl, hk1⟩, h1⟩; have HK1 := Lib.hid hk1; clear hk1
    have R := (Blk.new w #[.int .i64 h.kind, .int .i64 h.size, .int .i64 h.len, .bool h.flag, .string h.name, .slice p n cap] 25).fresh h1
    have H1 := Lib.hid (show Fresh w w1 from (by (repeat' first | with_reducible exact Fresh.refl _ | with_reducible assumption | with_reducible refine Fresh.alloc ?_ _ _ | with_reducible refine Fresh.drew ?_ | with_reducible refine Fresh.drewN ?_ _ | with_reducible refine Fresh.setCell ?_ ?_ _ | with_reducible refine Fresh.trans ?_ (by assumption) | (simp; done) | (simp; omega))))
    have r0 := (R).1 0 _ rfl; have r1 := (R).1 1 _ rfl; have r2 := (R).1 2 _ rfl; have r3 := (R).1 3 _ rfl; have r4 := (R).1 4 _ rfl; have r5 := (R).1 5 _ rfl; have rf := (R).2.1; have rz := (R).2.2
    clear R h1
    go_wp2_with fail
    go_at_call 24; refine (chunk_any h ks p n cap w0 _ (HF.out.trans H1.out) HK.out).mono ?_; rintro e w2 ⟨rfl, h2⟩
    clear r0 r1 r2 r3 r4 r5 rf rz
    go_wp2_with fail
    go_at_call 35; refine (csize_any _ _).mono ?_; rintro e w3 ⟨rfl, h3⟩
    go_wp2_with fail
    go_returns
    exact ⟨rfl, H1.out.trans (h2.trans h3)⟩
  · exact absurd hkd h5
  · exact absurd hkd h6
  · have HKD := Lib.hid hkd
    clear hkd h5 h6
    go_enter Tryz.func14, Tryz.ntmps14
    go_wp2_with fail
    go_at_call 32; refine (view7 h ks p n cap _ w0 (HF.out.trans (by (repeat' first | with_reducible exact Fresh.refl _ | with_reducible assumption | with_reducible refine Fresh.alloc ?_ _ _ | with_reducible refine Fresh.drew ?_ | with_reducible refine Fresh.drewN ?_ _ | with_reducible refine Fresh.setCell ?_ ?_ _ | with_reducible refine Fresh.trans ?_ (by assumption) | (simp; done) | (simp; omega)))) HK.out HKD.out).mono ?_; rintro e w1 ⟨⟨p1, n1, cap1, q1, m1, qc1, rfl, hk1, hq1⟩, h1⟩; have HK1 := Lib.hid hk1; have HQ1 := Lib.hid hq1; clear hk1 hq1
    have R := (Blk.new w #[.int .i64 h.kind, .int .i64 h.size, .int .i64 h.len, .bool h.flag, .string h.name, .slice p n cap] 25).fresh h1
    have H1 := Lib.hid (show Fresh w w1 from (by (repeat' first | with_reducible exact Fresh.refl _ | with_reducible assumption | with_reducible refine Fresh.alloc ?_ _ _ | with_reducible refine Fresh.drew ?_ | with_reducible refine Fresh.drewN ?_ _ | with_reducible refine Fresh.setCell ?_ ?_ _ | with_reducible refine Fresh.trans ?_ (by assumption) | (simp; done) | (simp; omega))))
    have r0 := (R).1 0 _ rfl; have r1 := (R).1 1 _ rfl; have r2 := (R).1 2 _ rfl; have r3 := (R).1 3 _ rfl; have r4 := (R).1 4 _ rfl; have r5 := (R).1 5 _ rfl; have rf := (R).2.1; have rz := (R).2.2
    clear R h1
    go_wp2_with fail
    go_at_call 24; refine (chunk_any h ks p n cap w0 _ (HF.out.trans H1.out) HK.out).mono ?_; rintro e w2 ⟨rfl, h2⟩
    clear r0 r1 r2 r3 r4 r5 rf rz
    go_wp2_with fail
    go_at_call 35; refine (csize_any _ _).mono ?_; rintro e w3 ⟨rfl, h3⟩
    go_wp2_with fail
    go_returns
    exact ⟨rfl, H1.out.trans (h2.trans h3)⟩
  · have HKD := Lib.hid hkd
    clear hkd h5 h6
    go_enter Tryz.func14, Tryz.ntmps14
    go_wp2_with fail
    go_at_call 32; refine (view0 h p n cap _ HKD.out).mono ?_; rintro e w1 ⟨rfl, h1⟩
    have R := (Blk.new w #[.int .i64 h.kind, .int .i64 h.size, .int .i64 h.len, .bool h.flag, .string h.name, .slice p n cap] 25).fresh h1
    have H1 := Lib.hid (show Fresh w w1 from (by (repeat' first | with_reducible exact Fresh.refl _ | with_reducible assumption | with_reducible refine Fresh.alloc ?_ _ _ | with_reducible refine Fresh.drew ?_ | with_reducible refine Fresh.drewN ?_ _ | with_reducible refine Fresh.setCell ?_ ?_ _ | with_reducible refine Fresh.trans ?_ (by assumption) | (simp; done) | (simp; omega))))
    have r0 := (R).1 0 _ rfl; have r1 := (R).1 1 _ rfl; have r2 := (R).1 2 _ rfl; have r3 := (R).1 3 _ rfl; have r4 := (R).1 4 _ rfl; have r5 := (R).1 5 _ rfl; have rf := (R).2.1; have rz := (R).2.2
    clear R h1
    go_wp2_with fail
    go_at_call 24; refine (chunk_any h ks p n cap w0 _ (HF.out.trans H1.out) HK.out).mono ?_; rintro e w2 ⟨rfl, h2⟩
    clear r0 r1 r2 r3 r4 r5 rf rz
    go_wp2_with fail
    go_at_call 35; refine (csize_any _ _).mono ?_; rintro e w3 ⟨rfl, h3⟩
    go_wp2_with fail
    go_returns
    exact ⟨rfl, H1.out.trans (h2.trans h3)⟩
end
section
variable (f : Nat → La) (lp : Option Addr) (k lc : Nat) (h : Hd) (p : Option Addr) (n cap : Nat) (w0 w : World) (hf : Fresh w0 w) (hk0 : k ≤ lc) (hkc : lc ≤ maxLen) (hl : LaysAt w0 lp k f)
include hf hk0 hkc hl
set_option maxHeartbeats 1000000 in
theorem size_rec (s : Int × Int) (h6 : h.kind = 6) : Calls Tryz.prog 14 #[.agg #[.int .i64 h.kind, .int .i64 h.size, .int .i64 h.len, .bool h.flag, .string h.name, .slice p n cap], .slice lp k lc] w fun e w' => e = .returned (.tuple #[.int .i64 (sizeH f k h s).1, .int .i64 (sizeH f k h s).2]) ∧ Fresh w w' := by
  have HE : Hid (sizeH f k h s = recSize f k h.name h.flag) := Lib.hid (by unfold sizeH; rw [if_neg (by omega), if_pos h6])
  rw [HE.out]
  have HKD := Lib.hid h6
  have HF := Lib.hid hf
  have HL := Lib.hid hl
  clear hf hl h6
  go_enter Tryz.func14, Tryz.ntmps14
  go_wp2_with fail
  go_at_call 32; refine (view6 h p n cap _ HKD.out).mono ?_; rintro e w1 ⟨rfl, h1⟩
  have H1 := Lib.hid (show Fresh w w1 from (by (repeat' first | with_reducible exact Fresh.refl _ | with_reducible assumption | with_reducible refine Fresh.alloc ?_ _ _ | with_reducible refine Fresh.drew ?_ | with_reducible refine Fresh.drewN ?_ _ | with_reducible refine Fresh.setCell ?_ ?_ _ | with_reducible refine Fresh.trans ?_ (by assumption) | (simp; done) | (simp; omega))))
  clear h1
  go_wp2_with fail
  go_at_call 34; refine (position_any f lp k lc h.name w0 _ (HF.out.trans (H1.out.trans (by (repeat' first | with_reducible exact Fresh.refl _ | with_reducible assumption | with_reducible refine Fresh.alloc ?_ _ _ | with_reducible refine Fresh.drew ?_ | with_reducible refine Fresh.drewN ?_ _ | with_reducible refine Fresh.setCell ?_ ?_ _ | with_reducible refine Fresh.trans ?_ (by assumption) | (simp; done) | (simp; omega))))) hk0 hkc HL.out).mono ?_; rintro e w2 ⟨⟨r, rfl, hr⟩, h2⟩
  have t6 := (Blk.new w1 #[.string h.name, .bool h.flag] 56).fresh h2
  have g0 := t6.1 0 _ rfl
  have g1 := t6.1 1 _ rfl
  have gz := t6.2.2
  have H2 := Lib.hid (H1.out.trans (show Fresh w1 w2 from (by (repeat' first | with_reducible exact Fresh.refl _ | with_reducible assumption | with_reducible refine Fresh.alloc ?_ _ _ | with_reducible refine Fresh.drew ?_ | with_reducible refine Fresh.drewN ?_ _ | with_reducible refine Fresh.setCell ?_ ?_ _ | with_reducible refine Fresh.trans ?_ (by assumption) | (simp; done) | (simp; omega)))))
  clear t6 h2
  unfold maxLen at hkc
  rcases hr with ⟨i, hi, rfl, hn, hj⟩ | ⟨rfl, hj⟩
  · have HR := Lib.hid (recSize_some h.flag hi hn hj)
    clear hn hj
    obtain ⟨LB, lo, rfl, hc⟩ := HL.out.resolve_left (by omega)
    obtain ⟨c0, c1, c2, c3, c4⟩ := (hc i hi).later (HF.out.trans H2.out)
    have cz := cell_lt c0
    simp only at cz
    clear hc
    have hi1 : (i : Int) < (k : Int) := by omega
    have hi0 : (0 : Int) ≤ (i : Int) := by omega
    cases hu : (f i).un == h.flag
    · have HR2 : Hid (recSize f k h.name h.flag = (0, 0)) := Lib.hid (by rw [HR.out, hu]; rfl)
      go_wp2_with fail
      go_quiet (fail)
      go_wp2_with fail
      go_returns
      rw [HR2.out]
      exact ⟨rfl, H2.out.trans (by (repeat' first | with_reducible exact Fresh.refl _ | with_reducible assumption | with_reducible refine Fresh.alloc ?_ _ _ | with_reducible refine Fresh.drew ?_ | with_reducible refine Fresh.drewN ?_ _ | with_reducible refine Fresh.setCell ?_ ?_ _ | with_reducible refine Fresh.trans ?_ (by assumption) | (simp; done) | (simp; omega)))⟩
    · have HR2 : Hid (recSize f k h.name h.flag = ((f i).sz, (f i).al)) := Lib.hid (by rw [HR.out, hu]; rfl)
      go_wp2_with fail
      go_quiet (fail)
      go_wp2_with fail
      go_quiet (fail)
      go_wp2_with fail
      go_returns
      rw [HR2.out]
      exact ⟨rfl, H2.out.trans (by (repeat' first | with_reducible exact Fresh.refl _ | with_reducible assumption | with_reducible refine Fresh.alloc ?_ _ _ | with_reducible refine Fresh.drew ?_ | with_reducible refine Fresh.drewN ?_ _ | with_reducible refine Fresh.setCell ?_ ?_ _ | with_reducible refine Fresh.trans ?_ (by assumption) | (simp; done) | (simp; omega)))⟩
  · have HR2 := Lib.hid (recSize_none h.flag hj)
    clear hj
    go_wp2_with fail
    go_quiet (fail)
    go_wp2_with fail
    go_returns
    rw [HR2.out]
    exact ⟨rfl, H2.out.trans (by (repeat' first | with_reducible exact Fresh.refl _ | with_reducible assumption | with_reducible refine Fresh.alloc ?_ _ _ | with_reducible refine Fresh.drew ?_ | with_reducible refine Fresh.drewN ?_ _ | with_reducible refine Fresh.setCell ?_ ?_ _ | with_reducible refine Fresh.trans ?_ (by assumption) | (simp; done) | (simp; omega)))⟩
end
section
variable {ok : Nat → Prop} (f : Nat → La) (lp : Option Addr) (k lc : Nat) (h : Hd) (ks : Tys) (p : Option Addr) (n cap : Nat) (w0 w : World) (hf : Fresh w0 w) (hks : Kids ok w0 ks p n cap)
set_option maxHeartbeats 2000000 in
theorem arraySize_any (s a l : Int) (s0 : 0 ≤ s) (s1 : s ≤ 1048576) (a0 : 0 ≤ a) (a1 : a ≤ 8)
    (kid : ∀ X : World, Fresh w0 X → Calls Tryz.prog 14 #[.agg #[.int .i64 h.kind, .int .i64 h.size, .int .i64 h.len, .bool h.flag, .string h.name, .slice p n cap], .slice lp k lc] X fun e w' => e = .returned (.tuple #[.int .i64 s, .int .i64 a]) ∧ Fresh X w') (hf : Fresh w0 w) :
    Calls Tryz.prog 33 #[.agg #[.int .i64 h.kind, .int .i64 h.size, .int .i64 h.len, .bool h.flag, .string h.name, .slice p n cap, .int .i64 l], .slice lp k lc] w fun e w' => e = .returned (.tuple #[.int .i64 (arrS (s, a) l).1, .int .i64 (arrS (s, a) l).2]) ∧ Fresh w w' := by
  have HF := Lib.hid hf
  have KID := Lib.hid kid
  clear hf kid
  by_cases hz : a = 0 ∨ l < 1
  · have HE : Hid (arrS (s, a) l = (0, 0)) := Lib.hid (by unfold arrS; rw [if_pos hz])
    rw [HE.out]
    rcases (show (a == 0) = true ∨ ((a == 0) = false ∧ l < 1) by
      by_cases e : a = 0
      · exact Or.inl (by simpa using e)
      · exact Or.inr ⟨by simpa using e, by omega⟩) with q | ⟨q, q2⟩
    all_goals
      clear hz
      go_enter Tryz.func33, Tryz.ntmps33
      go_wp2_with fail
      go_at_call 14; refine (KID.out _ (HF.out.trans (by (repeat' first | with_reducible exact Fresh.refl _ | with_reducible assumption | with_reducible refine Fresh.alloc ?_ _ _ | with_reducible refine Fresh.drew ?_ | with_reducible refine Fresh.drewN ?_ _ | with_reducible refine Fresh.setCell ?_ ?_ _ | with_reducible refine Fresh.trans ?_ (by assumption) | (simp; done) | (simp; omega))))).mono ?_; rintro e w1 ⟨rfl, h1⟩
      have R := (Blk.new w #[.int .i64 h.kind, .int .i64 h.size, .int .i64 h.len, .bool h.flag, .string h.name, .slice p n cap, .int .i64 l] 58).fresh h1
      have r6 := R.1 6 _ rfl
      have rz := R.2.2
      clear R
      go_wp2_with fail
      go_returns
      exact ⟨rfl, (by (repeat' first | with_reducible exact Fresh.refl _ | with_reducible assumption | with_reducible refine Fresh.alloc ?_ _ _ | with_reducible refine Fresh.drew ?_ | with_reducible refine Fresh.drewN ?_ _ | with_reducible refine Fresh.setCell ?_ ?_ _ | with_reducible refine Fresh.trans ?_ (by assumption) | (simp; done) | (simp; omega)))⟩
  · have q : (a == 0) = false := by simp; omega
    have hl1 : 1 ≤ l := by omega
    by_cases hs : 0 < s
    · by_cases hq : 1048576 / s < l
      · have HE : Hid (arrS (s, a) l = (0, 0)) := Lib.hid (by unfold arrS; rw [if_neg hz, if_pos ⟨hs, hq⟩])
        rw [HE.out]
        have hd1 : decide (0 < s) = true := by simpa using hs
        have hd2 : decide (1048576 / s < l) = true := by simpa using hq
        clear hz
        go_enter Tryz.func33, Tryz.ntmps33
        go_wp2_with fail
        go_at_call 14; refine (KID.out _ (HF.out.trans (by (repeat' first | with_reducible exact Fresh.refl _ | with_reducible assumption | with_reducible refine Fresh.alloc ?_ _ _ | with_reducible refine Fresh.drew ?_ | with_reducible refine Fresh.drewN ?_ _ | with_reducible refine Fresh.setCell ?_ ?_ _ | with_reducible refine Fresh.trans ?_ (by assumption) | (simp; done) | (simp; omega))))).mono ?_; rintro e w1 ⟨rfl, h1⟩
        have R := (Blk.new w #[.int .i64 h.kind, .int .i64 h.size, .int .i64 h.len, .bool h.flag, .string h.name, .slice p n cap, .int .i64 l] 58).fresh h1
        have r6 := R.1 6 _ rfl
        have rz := R.2.2
        clear R
        go_wp2_with fail
        go_quiet (fail)
        go_wp2_with fail
        go_returns
        exact ⟨rfl, (by (repeat' first | with_reducible exact Fresh.refl _ | with_reducible assumption | with_reducible refine Fresh.alloc ?_ _ _ | with_reducible refine Fresh.drew ?_ | with_reducible refine Fresh.drewN ?_ _ | with_reducible refine Fresh.setCell ?_ ?_ _ | with_reducible refine Fresh.trans ?_ (by assumption) | (simp; done) | (simp; omega)))⟩
      · have HE : Hid (arrS (s, a) l = (l * s, a)) := Lib.hid (by unfold arrS; rw [if_neg hz, if_neg (fun e => hq e.2)])
        rw [HE.out]
        have hm1 : l * s ≤ 1048576 := (Int.le_ediv_iff_mul_le hs).1 (by omega)
        have hm0 : 0 ≤ l * s := Int.mul_nonneg (by omega) s0
        have hq' : l ≤ 1048576 / s := by omega
        have hd1 : decide (0 < s) = true := by simpa using hs
        have hd2 : decide (1048576 / s < l) = false := by simpa using hq'
        clear hz
        go_enter Tryz.func33, Tryz.ntmps33
        go_wp2_with fail
        go_at_call 14; refine (KID.out _ (HF.out.trans (by (repeat' first | with_reducible exact Fresh.refl _ | with_reducible assumption | with_reducible refine Fresh.alloc ?_ _ _ | with_reducible refine Fresh.drew ?_ | with_reducible refine Fresh.drewN ?_ _ | with_reducible refine Fresh.setCell ?_ ?_ _ | with_reducible refine Fresh.trans ?_ (by assumption) | (simp; done) | (simp; omega))))).mono ?_; rintro e w1 ⟨rfl, h1⟩
        have R := (Blk.new w #[.int .i64 h.kind, .int .i64 h.size, .int .i64 h.len, .bool h.flag, .string h.name, .slice p n cap, .int .i64 l] 58).fresh h1
        have r6 := R.1 6 _ rfl
        have rz := R.2.2
        clear R
        go_wp2_with fail
        go_quiet (fail)
        go_wp2_with fail
        go_returns
        exact ⟨rfl, (by (repeat' first | with_reducible exact Fresh.refl _ | with_reducible assumption | with_reducible refine Fresh.alloc ?_ _ _ | with_reducible refine Fresh.drew ?_ | with_reducible refine Fresh.drewN ?_ _ | with_reducible refine Fresh.setCell ?_ ?_ _ | with_reducible refine Fresh.trans ?_ (by assumption) | (simp; done) | (simp; omega)))⟩
    · obtain rfl : s = 0 := by omega
      have HE : Hid (arrS (0, a) l = (0, a)) := Lib.hid (by unfold arrS; rw [if_neg hz, if_neg (by simp)]; simp)
      rw [HE.out]
      clear hz hs
      go_enter Tryz.func33, Tryz.ntmps33
      go_wp2_with fail
      go_at_call 14; refine (KID.out _ (HF.out.trans (by (repeat' first | with_reducible exact Fresh.refl _ | with_reducible assumption | with_reducible refine Fresh.alloc ?_ _ _ | with_reducible refine Fresh.drew ?_ | with_reducible refine Fresh.drewN ?_ _ | with_reducible refine Fresh.setCell ?_ ?_ _ | with_reducible refine Fresh.trans ?_ (by assumption) | (simp; done) | (simp; omega))))).mono ?_; rintro e w1 ⟨rfl, h1⟩
      have R := (Blk.new w #[.int .i64 h.kind, .int .i64 h.size, .int .i64 h.len, .bool h.flag, .string h.name, .slice p n cap, .int .i64 l] 58).fresh h1
      have r6 := R.1 6 _ rfl
      have rz := R.2.2
      clear R
      go_wp2_with fail
      go_quiet (fail)
      go_wp2_with fail
      go_returns
      exact ⟨by simp, (by (repeat' first | with_reducible exact Fresh.refl _ | with_reducible assumption | with_reducible refine Fresh.alloc ?_ _ _ | with_reducible refine Fresh.drew ?_ | with_reducible refine Fresh.drewN ?_ _ | with_reducible refine Fresh.setCell ?_ ?_ _ | with_reducible refine Fresh.trans ?_ (by assumption) | (simp; done) | (simp; omega)))⟩
end
section
variable {ok : Nat → Prop} (f : Nat → La) (lp : Option Addr) (k lc : Nat) (h : Hd) (ks : Tys) (p : Option Addr) (n cap : Nat) (w0 w : World) (hf : Fresh w0 w) (hks : Kids ok w0 ks p n cap)
include hf hks
theorem size_arr (s a : Int) (h5 : h.kind = 5) (s0 : 0 ≤ s) (s1 : s ≤ 1048576) (a0 : 0 ≤ a) (a1 : a ≤ 8)
    (kid : ∀ (X : World) (p' : Option Addr) (n' cap' : Nat), Fresh w0 X → Kids ok w0 ks.kids p' n' cap' → Calls Tryz.prog 14 #[.agg #[.int .i64 ks.hd.kind, .int .i64 ks.hd.size, .int .i64 ks.hd.len, .bool ks.hd.flag, .string ks.hd.name, .slice p' n' cap'], .slice lp k lc] X fun e w' => e = .returned (.tuple #[.int .i64 s, .int .i64 a]) ∧ Fresh X w') :
    Calls Tryz.prog 14 #[.agg #[.int .i64 h.kind, .int .i64 h.size, .int .i64 h.len, .bool h.flag, .string h.name, .slice p n cap], .slice lp k lc] w fun e w' => e = .returned (.tuple #[.int .i64 (arrS (s, a) h.len).1, .int .i64 (arrS (s, a) h.len).2]) ∧ Fresh w w' := by
  have HKD := Lib.hid h5
  have HK := Lib.hid hks
  have HF := Lib.hid hf
  have KID := Lib.hid kid
  clear h5 hks hf kid
  go_enter Tryz.func14, Tryz.ntmps14
  go_wp2_with fail
  go_at_call 32; refine (view5 h ks p n cap _ w0 (HF.out.trans (by (repeat' first | with_reducible exact Fresh.refl _ | with_reducible assumption | with_reducible refine Fresh.alloc ?_ _ _ | with_reducible refine Fresh.drew ?_ | with_reducible refine Fresh.drewN ?_ _ | with_reducible refine Fresh.setCell ?_ ?_ _ | with_reducible refine Fresh.trans ?_ (by assumption) | (simp; done) | (simp; omega)))) HK.out HKD.out).mono ?_; rintro e w1 ⟨⟨p1, n1, cap1, rfl, hk1⟩, h1⟩; have HK1 := Lib.hid hk1; clear hk1
  have H1 := Lib.hid (show Fresh w w1 from (by (repeat' first | with_reducible exact Fresh.refl _ | with_reducible assumption | with_reducible refine Fresh.alloc ?_ _ _ | with_reducible refine Fresh.drew ?_ | with_reducible refine Fresh.drewN ?_ _ | with_reducible refine Fresh.setCell ?_ ?_ _ | with_reducible refine Fresh.trans ?_ (by assumption) | (simp; done) | (simp; omega))))
  clear h1
  go_wp2_with fail
  go_at_call 33; refine (arraySize_any lp k lc ks.hd p1 n1 cap1 w0 _ s a h.len s0 s1 a0 a1 (fun X hX => KID.out X p1 n1 cap1 hX HK1.out) (HF.out.trans (H1.out.trans (by (repeat' first | with_reducible exact Fresh.refl _ | with_reducible assumption | with_reducible refine Fresh.alloc ?_ _ _ | with_reducible refine Fresh.drew ?_ | with_reducible refine Fresh.drewN ?_ _ | with_reducible refine Fresh.setCell ?_ ?_ _ | with_reducible refine Fresh.trans ?_ (by assumption) | (simp; done) | (simp; omega)))))).mono ?_; rintro e w2 ⟨rfl, h2⟩
  go_wp2_with fail
  go_returns
  exact ⟨rfl, H1.out.trans (by (repeat' first | with_reducible exact Fresh.refl _ | with_reducible assumption | with_reducible refine Fresh.alloc ?_ _ _ | with_reducible refine Fresh.drew ?_ | with_reducible refine Fresh.drewN ?_ _ | with_reducible refine Fresh.setCell ?_ ?_ _ | with_reducible refine Fresh.trans ?_ (by assumption) | (simp; done) | (simp; omega)))⟩
end
/-- The size of every type, beside layouts. -/
theorem size_all (f : Nat → La) (lp : Option Addr) (k lc : Nat) (hg : Good f k) (hk0 : k ≤ lc) (hkc : lc ≤ maxLen) : ∀ (ks : Tys) (ok : Nat → Prop) (h : Hd) (p : Option Addr) (n cap : Nat) (w0 w : World), Fresh w0 w → Kids ok w0 ks p n cap → LaysAt w0 lp k f →
    Calls Tryz.prog 14 #[.agg #[.int .i64 h.kind, .int .i64 h.size, .int .i64 h.len, .bool h.flag, .string h.name, .slice p n cap], .slice lp k lc] w fun e w' => e = .returned (.tuple #[.int .i64 (sizeH f k h (ks.size0 f k)).1, .int .i64 (sizeH f k h (ks.size0 f k)).2]) ∧ Fresh w w' := by
  intro ks
  induction ks with
  | nil =>
    intro ok h p n cap w0 w hf hks hl
    by_cases h5 : h.kind = 5
    · have e : sizeH f k h (Tys.nil.size0 f k) = arrS (0, 0) h.len := by unfold sizeH; rw [if_pos h5]; rfl
      rw [e]
      refine size_arr lp k lc h .nil p n cap w0 w hf hks 0 0 h5 (by omega) (by omega) (by omega) (by omega) (fun X p' n' cap' hX hK => ?_)
      have := size_leaf f lp k lc Hd.zero .nil p' n' cap' w0 X hX hK (0, 0) (by decide) (by decide)
      exact this
    · by_cases h6 : h.kind = 6
      · exact size_rec f lp k lc h p n cap w0 w hf hk0 hkc hl _ h6
      · exact size_leaf f lp k lc h .nil p n cap w0 w hf hks _ h5 h6
  | cons h1 k1 r ih _ =>
    intro ok h p n cap w0 w hf hks hl
    by_cases h5 : h.kind = 5
    · have e : sizeH f k h ((Tys.cons h1 k1 r).size0 f k) = arrS (sizeH f k h1 (k1.size0 f k)) h.len := by unfold sizeH; rw [if_pos h5]; rfl
      rw [e]
      have bd := sizeH_bd hg h1 (k1.size0 f k) (size0_bd hg k1).1 (size0_bd hg k1).2.2
      exact size_arr lp k lc h (.cons h1 k1 r) p n cap w0 w hf hks _ _ h5 bd.1 bd.2.1 bd.2.2.1 bd.2.2.2 (fun X p' n' cap' hX hK => ih ok h1 p' n' cap' w0 X hX hK hl)
    · by_cases h6 : h.kind = 6
      · exact size_rec f lp k lc h p n cap w0 w hf hk0 hkc hl _ h6
      · exact size_leaf f lp k lc h _ p n cap w0 w hf hks _ h5 h6
end Go.Proofs.YteiomcbphbbpkaaGreatDoor
