/- The reference: how great every type is. -/
import Derived.Test.YteiomcbphbbpkaaDoorHb
namespace Go.Proofs.YteiomcbphbbpkaaDoor
set_option linter.unusedSimpArgs false
set_option linter.unusedVariables false
set_option linter.unusedSectionVars false
open Go.RowKit
section
variable {ok : Nat → Prop} (f : Nat → La) (lp : Option Addr) (k lc : Nat) (h : Hd) (ks : Tys) (p : Option Addr) (n cap : Nat) (w0 w : World) (hf : Fresh w0 w) (hks : Kids ok w0 ks p n cap)
include hf hks
set_option maxRecDepth 100000 in
set_option maxHeartbeats 8000000 in
theorem compR_5 (s a : Int) (h5 : h.kind = 5) (s0 : 0 ≤ s) (s1 : s ≤ 1048576) (a0 : 0 ≤ a) (a1 : a ≤ 8)
    (kid : ∀ (X : World) (p' : Option Addr) (n' cap' : Nat), Fresh w0 X → Kids ok w0 ks.kids p' n' cap' → Calls Tryd.prog 47 #[.agg #[.int .i64 ks.hd.kind, .int .i64 ks.hd.size, .int .i64 ks.hd.len, .bool ks.hd.flag, .string ks.hd.name, .slice p' n' cap'], .slice lp k lc] X (TripR s a X)) :
    Calls Tryd.prog 47 #[.agg #[.int .i64 h.kind, .int .i64 h.size, .int .i64 h.len, .bool h.flag, .string h.name, .slice p n cap], .slice lp k lc] w (TripR (arrS (s, a) h.len).1 (arrS (s, a) h.len).2 w) := by
  have HKD := Lib.hid h5
  have HK := Lib.hid hks
  have HF := Lib.hid hf
  have KID := Lib.hid kid
  clear h5 hks hf kid
  have kk3 : (h.kind == 3) = false := by rw [HKD.out]; rfl
  have kk4 : (h.kind == 4) = false := by rw [HKD.out]; rfl
  have kk2 : (h.kind == 2) = false := by rw [HKD.out]; rfl
  have kk6 : (h.kind == 6) = false := by rw [HKD.out]; rfl
  have kk5 : (h.kind == 5) = true := by rw [HKD.out]; rfl
  by_cases ha : a = 0
  · subst ha
    have HE : Hid (arrS (s, 0) h.len = (0, 0)) := Lib.hid (by unfold arrS; rw [if_pos (Or.inl rfl)])
    rw [HE.out]
    clear a0 a1
    go_enter Tryd.func47, Tryd.ntmps47
    go_wp2_with fail
    go_at_call 51; refine (array_any h ks p n cap _ w0 (HF.out.trans (by (repeat' first | with_reducible exact Fresh.refl _ | with_reducible assumption | with_reducible refine Fresh.alloc ?_ _ _ | with_reducible refine Fresh.drew ?_ | with_reducible refine Fresh.drewN ?_ _ | with_reducible refine Fresh.setCell ?_ ?_ _ | with_reducible refine Fresh.trans ?_ (by assumption) | (simp; done) | (simp; omega)))) HK.out).mono ?_; rintro e w1 ⟨⟨p1, n1, cap1, rfl, hk1⟩, h1⟩; have HK1 := Lib.hid hk1; clear hk1
    have H1 := Lib.hid (show Fresh w w1 from (by (repeat' first | with_reducible exact Fresh.refl _ | with_reducible assumption | with_reducible refine Fresh.alloc ?_ _ _ | with_reducible refine Fresh.drew ?_ | with_reducible refine Fresh.drewN ?_ _ | with_reducible refine Fresh.setCell ?_ ?_ _ | with_reducible refine Fresh.trans ?_ (by assumption) | (simp; done) | (simp; omega))))
    clear h1
    go_wp2_with fail
    have T := Lib.hid (Blk.new w1 #[.int .i64 ks.hd.kind, .int .i64 ks.hd.size, .int .i64 ks.hd.len, .bool ks.hd.flag, .string ks.hd.name, .slice p1 n1 cap1, .int .i64 h.len] 69)
    go_at_call 47; refine (KID.out _ p1 n1 cap1 (HF.out.trans (H1.out.trans (by (repeat' first | with_reducible exact Fresh.refl _ | with_reducible assumption | with_reducible refine Fresh.alloc ?_ _ _ | with_reducible refine Fresh.drew ?_ | with_reducible refine Fresh.drewN ?_ _ | with_reducible refine Fresh.setCell ?_ ?_ _ | with_reducible refine Fresh.trans ?_ (by assumption) | (simp; done) | (simp; omega))))) HK1.out).mono ?_; rintro e w2 ⟨rfl, h2⟩
    have x6 := (T.out.fresh h2).1 6 _ rfl
    have xz := cell_lt x6
    simp only at xz
    have H2 := Lib.hid (H1.out.trans (show Fresh w1 w2 from (by (repeat' first | with_reducible exact Fresh.refl _ | with_reducible assumption | with_reducible refine Fresh.alloc ?_ _ _ | with_reducible refine Fresh.drew ?_ | with_reducible refine Fresh.drewN ?_ _ | with_reducible refine Fresh.setCell ?_ ?_ _ | with_reducible refine Fresh.trans ?_ (by assumption) | (simp; done) | (simp; omega)))))
    clear h2 T
    go_wp2_with fail
    go_quiet (fail)
    go_wp2_with fail
    go_returns
    exact ⟨rfl, H2.out.trans (by (repeat' first | with_reducible exact Fresh.refl _ | with_reducible assumption | with_reducible refine Fresh.alloc ?_ _ _ | with_reducible refine Fresh.drew ?_ | with_reducible refine Fresh.drewN ?_ _ | with_reducible refine Fresh.setCell ?_ ?_ _ | with_reducible refine Fresh.trans ?_ (by assumption) | (simp; done) | (simp; omega)))⟩
  have qa : (a != 0) = true := by simpa using ha
  by_cases hl : h.len < 1
  · have HE : Hid (arrS (s, a) h.len = (0, 0)) := Lib.hid (by unfold arrS; rw [if_pos (Or.inr hl)])
    rw [HE.out]
    have hd : decide (1 ≤ h.len) = false := by simp; omega
    clear ha
    go_enter Tryd.func47, Tryd.ntmps47
    go_wp2_with fail
    go_at_call 51; refine (array_any h ks p n cap _ w0 (HF.out.trans (by (repeat' first | with_reducible exact Fresh.refl _ | with_reducible assumption | with_reducible refine Fresh.alloc ?_ _ _ | with_reducible refine Fresh.drew ?_ | with_reducible refine Fresh.drewN ?_ _ | with_reducible refine Fresh.setCell ?_ ?_ _ | with_reducible refine Fresh.trans ?_ (by assumption) | (simp; done) | (simp; omega)))) HK.out).mono ?_; rintro e w1 ⟨⟨p1, n1, cap1, rfl, hk1⟩, h1⟩; have HK1 := Lib.hid hk1; clear hk1
    have H1 := Lib.hid (show Fresh w w1 from (by (repeat' first | with_reducible exact Fresh.refl _ | with_reducible assumption | with_reducible refine Fresh.alloc ?_ _ _ | with_reducible refine Fresh.drew ?_ | with_reducible refine Fresh.drewN ?_ _ | with_reducible refine Fresh.setCell ?_ ?_ _ | with_reducible refine Fresh.trans ?_ (by assumption) | (simp; done) | (simp; omega))))
    clear h1
    go_wp2_with fail
    have T := Lib.hid (Blk.new w1 #[.int .i64 ks.hd.kind, .int .i64 ks.hd.size, .int .i64 ks.hd.len, .bool ks.hd.flag, .string ks.hd.name, .slice p1 n1 cap1, .int .i64 h.len] 69)
    go_at_call 47; refine (KID.out _ p1 n1 cap1 (HF.out.trans (H1.out.trans (by (repeat' first | with_reducible exact Fresh.refl _ | with_reducible assumption | with_reducible refine Fresh.alloc ?_ _ _ | with_reducible refine Fresh.drew ?_ | with_reducible refine Fresh.drewN ?_ _ | with_reducible refine Fresh.setCell ?_ ?_ _ | with_reducible refine Fresh.trans ?_ (by assumption) | (simp; done) | (simp; omega))))) HK1.out).mono ?_; rintro e w2 ⟨rfl, h2⟩
    have x6 := (T.out.fresh h2).1 6 _ rfl
    have xz := cell_lt x6
    simp only at xz
    have H2 := Lib.hid (H1.out.trans (show Fresh w1 w2 from (by (repeat' first | with_reducible exact Fresh.refl _ | with_reducible assumption | with_reducible refine Fresh.alloc ?_ _ _ | with_reducible refine Fresh.drew ?_ | with_reducible refine Fresh.drewN ?_ _ | with_reducible refine Fresh.setCell ?_ ?_ _ | with_reducible refine Fresh.trans ?_ (by assumption) | (simp; done) | (simp; omega)))))
    clear h2 T
    go_wp2_with fail
    go_quiet (fail)
    go_wp2_with fail
    go_returns
    exact ⟨rfl, H2.out.trans (by (repeat' first | with_reducible exact Fresh.refl _ | with_reducible assumption | with_reducible refine Fresh.alloc ?_ _ _ | with_reducible refine Fresh.drew ?_ | with_reducible refine Fresh.drewN ?_ _ | with_reducible refine Fresh.setCell ?_ ?_ _ | with_reducible refine Fresh.trans ?_ (by assumption) | (simp; done) | (simp; omega)))⟩
  have hl1 : 1 ≤ h.len := by omega
  have hz : ¬ (a = 0 ∨ h.len < 1) := by omega
  by_cases hs : 0 < s
  · have hd0 : decide (s ≤ 0) = false := by simp; omega
    by_cases hq : 1048576 / s < h.len
    · have HE : Hid (arrS (s, a) h.len = (0, 0)) := Lib.hid (by unfold arrS; rw [if_neg hz, if_pos ⟨hs, hq⟩])
      rw [HE.out]
      have hd2 : decide (h.len ≤ 1048576 / s) = false := by simpa using hq
      clear hz ha hl
      go_enter Tryd.func47, Tryd.ntmps47
      go_wp2_with fail
      go_at_call 51; refine (array_any h ks p n cap _ w0 (HF.out.trans (by (repeat' first | with_reducible exact Fresh.refl _ | with_reducible assumption | with_reducible refine Fresh.alloc ?_ _ _ | with_reducible refine Fresh.drew ?_ | with_reducible refine Fresh.drewN ?_ _ | with_reducible refine Fresh.setCell ?_ ?_ _ | with_reducible refine Fresh.trans ?_ (by assumption) | (simp; done) | (simp; omega)))) HK.out).mono ?_; rintro e w1 ⟨⟨p1, n1, cap1, rfl, hk1⟩, h1⟩; have HK1 := Lib.hid hk1; clear hk1
      have H1 := Lib.hid (show Fresh w w1 from (by (repeat' first | with_reducible exact Fresh.refl _ | with_reducible assumption | with_reducible refine Fresh.alloc ?_ _ _ | with_reducible refine Fresh.drew ?_ | with_reducible refine Fresh.drewN ?_ _ | with_reducible refine Fresh.setCell ?_ ?_ _ | with_reducible refine Fresh.trans ?_ (by assumption) | (simp; done) | (simp; omega))))
      clear h1
      go_wp2_with fail
      have T := Lib.hid (Blk.new w1 #[.int .i64 ks.hd.kind, .int .i64 ks.hd.size, .int .i64 ks.hd.len, .bool ks.hd.flag, .string ks.hd.name, .slice p1 n1 cap1, .int .i64 h.len] 69)
      go_at_call 47; refine (KID.out _ p1 n1 cap1 (HF.out.trans (H1.out.trans (by (repeat' first | with_reducible exact Fresh.refl _ | with_reducible assumption | with_reducible refine Fresh.alloc ?_ _ _ | with_reducible refine Fresh.drew ?_ | with_reducible refine Fresh.drewN ?_ _ | with_reducible refine Fresh.setCell ?_ ?_ _ | with_reducible refine Fresh.trans ?_ (by assumption) | (simp; done) | (simp; omega))))) HK1.out).mono ?_; rintro e w2 ⟨rfl, h2⟩
      have x6 := (T.out.fresh h2).1 6 _ rfl
      have xz := cell_lt x6
      simp only at xz
      have H2 := Lib.hid (H1.out.trans (show Fresh w1 w2 from (by (repeat' first | with_reducible exact Fresh.refl _ | with_reducible assumption | with_reducible refine Fresh.alloc ?_ _ _ | with_reducible refine Fresh.drew ?_ | with_reducible refine Fresh.drewN ?_ _ | with_reducible refine Fresh.setCell ?_ ?_ _ | with_reducible refine Fresh.trans ?_ (by assumption) | (simp; done) | (simp; omega)))))
      clear h2 T
      go_wp2_with fail
      go_quiet (fail)
      go_wp2_with fail
      go_returns
      exact ⟨rfl, H2.out.trans (by (repeat' first | with_reducible exact Fresh.refl _ | with_reducible assumption | with_reducible refine Fresh.alloc ?_ _ _ | with_reducible refine Fresh.drew ?_ | with_reducible refine Fresh.drewN ?_ _ | with_reducible refine Fresh.setCell ?_ ?_ _ | with_reducible refine Fresh.trans ?_ (by assumption) | (simp; done) | (simp; omega)))⟩
    · have HE : Hid (arrS (s, a) h.len = (h.len * s, a)) := Lib.hid (by unfold arrS; rw [if_neg hz, if_neg (fun e => hq e.2)])
      rw [HE.out]
      have hm1 : h.len * s ≤ 1048576 := (Int.le_ediv_iff_mul_le hs).1 (by omega)
      have hm0 : 0 ≤ h.len * s := Int.mul_nonneg (by omega) s0
      have hq' : h.len ≤ 1048576 / s := by omega
      have hd2 : decide (h.len ≤ 1048576 / s) = true := by simpa using hq'
      have QA := Lib.hid qa
      clear hz ha hl
      go_enter Tryd.func47, Tryd.ntmps47
      go_wp2_with fail
      go_at_call 51; refine (array_any h ks p n cap _ w0 (HF.out.trans (by (repeat' first | with_reducible exact Fresh.refl _ | with_reducible assumption | with_reducible refine Fresh.alloc ?_ _ _ | with_reducible refine Fresh.drew ?_ | with_reducible refine Fresh.drewN ?_ _ | with_reducible refine Fresh.setCell ?_ ?_ _ | with_reducible refine Fresh.trans ?_ (by assumption) | (simp; done) | (simp; omega)))) HK.out).mono ?_; rintro e w1 ⟨⟨p1, n1, cap1, rfl, hk1⟩, h1⟩; have HK1 := Lib.hid hk1; clear hk1
      have H1 := Lib.hid (show Fresh w w1 from (by (repeat' first | with_reducible exact Fresh.refl _ | with_reducible assumption | with_reducible refine Fresh.alloc ?_ _ _ | with_reducible refine Fresh.drew ?_ | with_reducible refine Fresh.drewN ?_ _ | with_reducible refine Fresh.setCell ?_ ?_ _ | with_reducible refine Fresh.trans ?_ (by assumption) | (simp; done) | (simp; omega))))
      clear h1
      go_wp2_with fail
      have T := Lib.hid (Blk.new w1 #[.int .i64 ks.hd.kind, .int .i64 ks.hd.size, .int .i64 ks.hd.len, .bool ks.hd.flag, .string ks.hd.name, .slice p1 n1 cap1, .int .i64 h.len] 69)
      go_at_call 47; refine (KID.out _ p1 n1 cap1 (HF.out.trans (H1.out.trans (by (repeat' first | with_reducible exact Fresh.refl _ | with_reducible assumption | with_reducible refine Fresh.alloc ?_ _ _ | with_reducible refine Fresh.drew ?_ | with_reducible refine Fresh.drewN ?_ _ | with_reducible refine Fresh.setCell ?_ ?_ _ | with_reducible refine Fresh.trans ?_ (by assumption) | (simp; done) | (simp; omega))))) HK1.out).mono ?_; rintro e w2 ⟨rfl, h2⟩
      have x6 := (T.out.fresh h2).1 6 _ rfl
      have xz := cell_lt x6
      simp only at xz
      have H2 := Lib.hid (H1.out.trans (show Fresh w1 w2 from (by (repeat' first | with_reducible exact Fresh.refl _ | with_reducible assumption | with_reducible refine Fresh.alloc ?_ _ _ | with_reducible refine Fresh.drew ?_ | with_reducible refine Fresh.drewN ?_ _ | with_reducible refine Fresh.setCell ?_ ?_ _ | with_reducible refine Fresh.trans ?_ (by assumption) | (simp; done) | (simp; omega)))))
      clear h2 T
      go_wp2_with fail
      go_quiet (fail)
      go_wp2_with fail
      go_returns
      exact ⟨by rw [QA.out]; rfl, H2.out.trans (by (repeat' first | with_reducible exact Fresh.refl _ | with_reducible assumption | with_reducible refine Fresh.alloc ?_ _ _ | with_reducible refine Fresh.drew ?_ | with_reducible refine Fresh.drewN ?_ _ | with_reducible refine Fresh.setCell ?_ ?_ _ | with_reducible refine Fresh.trans ?_ (by assumption) | (simp; done) | (simp; omega)))⟩
  · obtain rfl : s = 0 := by omega
    have HE : Hid (arrS (0, a) h.len = (0, a)) := Lib.hid (by unfold arrS; rw [if_neg hz, if_neg (by simp)]; simp)
    rw [HE.out]
    have QA := Lib.hid qa
    clear hz ha hl hs
    go_enter Tryd.func47, Tryd.ntmps47
    go_wp2_with fail
    go_at_call 51; refine (array_any h ks p n cap _ w0 (HF.out.trans (by (repeat' first | with_reducible exact Fresh.refl _ | with_reducible assumption | with_reducible refine Fresh.alloc ?_ _ _ | with_reducible refine Fresh.drew ?_ | with_reducible refine Fresh.drewN ?_ _ | with_reducible refine Fresh.setCell ?_ ?_ _ | with_reducible refine Fresh.trans ?_ (by assumption) | (simp; done) | (simp; omega)))) HK.out).mono ?_; rintro e w1 ⟨⟨p1, n1, cap1, rfl, hk1⟩, h1⟩; have HK1 := Lib.hid hk1; clear hk1
    have H1 := Lib.hid (show Fresh w w1 from (by (repeat' first | with_reducible exact Fresh.refl _ | with_reducible assumption | with_reducible refine Fresh.alloc ?_ _ _ | with_reducible refine Fresh.drew ?_ | with_reducible refine Fresh.drewN ?_ _ | with_reducible refine Fresh.setCell ?_ ?_ _ | with_reducible refine Fresh.trans ?_ (by assumption) | (simp; done) | (simp; omega))))
    clear h1
    go_wp2_with fail
    have T := Lib.hid (Blk.new w1 #[.int .i64 ks.hd.kind, .int .i64 ks.hd.size, .int .i64 ks.hd.len, .bool ks.hd.flag, .string ks.hd.name, .slice p1 n1 cap1, .int .i64 h.len] 69)
    go_at_call 47; refine (KID.out _ p1 n1 cap1 (HF.out.trans (H1.out.trans (by (repeat' first | with_reducible exact Fresh.refl _ | with_reducible assumption | with_reducible refine Fresh.alloc ?_ _ _ | with_reducible refine Fresh.drew ?_ | with_reducible refine Fresh.drewN ?_ _ | with_reducible refine Fresh.setCell ?_ ?_ _ | with_reducible refine Fresh.trans ?_ (by assumption) | (simp; done) | (simp; omega))))) HK1.out).mono ?_; rintro e w2 ⟨rfl, h2⟩
    have x6 := (T.out.fresh h2).1 6 _ rfl
    have xz := cell_lt x6
    simp only at xz
    have H2 := Lib.hid (H1.out.trans (show Fresh w1 w2 from (by (repeat' first | with_reducible exact Fresh.refl _ | with_reducible assumption | with_reducible refine Fresh.alloc ?_ _ _ | with_reducible refine Fresh.drew ?_ | with_reducible refine Fresh.drewN ?_ _ | with_reducible refine Fresh.setCell ?_ ?_ _ | with_reducible refine Fresh.trans ?_ (by assumption) | (simp; done) | (simp; omega)))))
    clear h2 T
    go_wp2_with fail
    go_quiet (fail)
    go_wp2_with fail
    go_returns
    exact ⟨by rw [QA.out]; simp, H2.out.trans (by (repeat' first | with_reducible exact Fresh.refl _ | with_reducible assumption | with_reducible refine Fresh.alloc ?_ _ _ | with_reducible refine Fresh.drew ?_ | with_reducible refine Fresh.drewN ?_ _ | with_reducible refine Fresh.setCell ?_ ?_ _ | with_reducible refine Fresh.trans ?_ (by assumption) | (simp; done) | (simp; omega)))⟩
end
theorem numS_csize (s : Int) (u : Bool) : (numS s = true → csize (nchunk s u) = s ∧ (s != 0) = true) ∧ (numS s = false → csize (nchunk s u) = 0) := by
  constructor
  · intro h
    have : s = 1 ∨ s = 2 ∨ s = 4 ∨ s = 8 := by unfold numS at h; simpa using h
    rcases this with rfl | rfl | rfl | rfl <;> cases u <;> decide
  · intro h
    have : s ≠ 1 ∧ s ≠ 2 ∧ s ≠ 4 ∧ s ≠ 8 := by unfold numS at h; simpa using h
    unfold nchunk
    rw [if_neg this.1, if_neg this.2.1, if_neg this.2.2.1, if_neg this.2.2.2]
    rfl
/-- The reference's complete, of every type. -/
theorem compR_any (f : Nat → La) (lp : Option Addr) (k lc : Nat) (hg : Good f k) (hk0 : k ≤ lc) (hkc : lc ≤ maxLen) : ∀ (ks : Tys) (ok : Nat → Prop) (h : Hd) (p : Option Addr) (n cap : Nat) (w0 w : World), Fresh w0 w → Kids ok w0 ks p n cap → LaysAt w0 lp k f → 0 ≤ h.kind ∧ h.kind ≤ 7 → ks.wf →
    Calls Tryd.prog 47 #[.agg #[.int .i64 h.kind, .int .i64 h.size, .int .i64 h.len, .bool h.flag, .string h.name, .slice p n cap], .slice lp k lc] w (TripR (sizeH f k h (ks.size0 f k)).1 (sizeH f k h (ks.size0 f k)).2 w) := by
  have leaf : ∀ (ok : Nat → Prop) (ks : Tys) (h : Hd) (p : Option Addr) (n cap : Nat) (w0 w : World), Fresh w0 w → Kids ok w0 ks p n cap → LaysAt w0 lp k f → 0 ≤ h.kind ∧ h.kind ≤ 7 → h.kind ≠ 5 →
      Calls Tryd.prog 47 #[.agg #[.int .i64 h.kind, .int .i64 h.size, .int .i64 h.len, .bool h.flag, .string h.name, .slice p n cap], .slice lp k lc] w (TripR (sizeH f k h (ks.size0 f k)).1 (sizeH f k h (ks.size0 f k)).2 w) := by
    intro ok ks h p n cap w0 w hf hks hl hb h5
    unfold sizeH
    rw [if_neg h5]
    by_cases h6 : h.kind = 6
    · rw [if_pos h6]
      exact compR_6 f lp k lc h p n cap w0 w hf hl hk0 hkc h6 hg
    rw [if_neg h6]
    have e : ∀ c, chunkOf h = c → csize (chunkOf h) = csize c := fun c hc => by rw [hc]
    rcases (show h.kind = 0 ∨ h.kind = 1 ∨ h.kind = 2 ∨ h.kind = 3 ∨ h.kind = 4 ∨ h.kind = 7 by omega) with q | q | q | q | q | q
    · rw [e 0 (by unfold chunkOf; rw [if_neg (by omega), if_neg (by omega), if_neg (by omega)])]
      exact compR_0 lp k lc h p n cap w q
    · rw [e 0 (by unfold chunkOf; rw [if_neg (by omega), if_neg (by omega), if_neg (by omega)])]
      exact compR_1 lp k lc h p n cap w q
    · rw [e (nchunk h.size h.flag) (by unfold chunkOf; rw [if_pos q])]
      cases hs : numS h.size
      · rw [(numS_csize h.size h.flag).2 hs]
        exact compR_2n lp k lc h p n cap w q hs
      · rw [((numS_csize h.size h.flag).1 hs).1]
        exact compR_2y lp k lc h p n cap w q hs ((numS_csize h.size h.flag).1 hs).2
    · rw [e 7 (by unfold chunkOf; rw [if_neg (by omega), if_pos q])]
      exact compR_3 lp k lc h p n cap w q
    · rw [e 6 (by unfold chunkOf; rw [if_neg (by omega), if_neg (by omega), if_pos q])]
      exact compR_4 lp k lc h p n cap w q
    · rw [e 0 (by unfold chunkOf; rw [if_neg (by omega), if_neg (by omega), if_neg (by omega)])]
      exact compR_7 lp k lc h p n cap w q
  intro ks
  induction ks with
  | nil =>
    intro ok h p n cap w0 w hf hks hl hb hw
    by_cases h5 : h.kind = 5
    · have e : sizeH f k h (Tys.nil.size0 f k) = arrS (0, 0) h.len := by unfold sizeH; rw [if_pos h5]; rfl
      rw [e]
      refine compR_5 lp k lc h .nil p n cap w0 w hf hks 0 0 h5 (by omega) (by omega) (by omega) (by omega) (fun X p' n' cap' hX hK => ?_)
      exact leaf ok .nil Hd.zero p' n' cap' w0 X hX hK hl ⟨by decide, by decide⟩ (by decide)
    · exact leaf ok .nil h p n cap w0 w hf hks hl hb h5
  | cons h1 k1 r ih _ =>
    intro ok h p n cap w0 w hf hks hl hb hw
    by_cases h5 : h.kind = 5
    · have e : sizeH f k h ((Tys.cons h1 k1 r).size0 f k) = arrS (sizeH f k h1 (k1.size0 f k)) h.len := by unfold sizeH; rw [if_pos h5]; rfl
      rw [e]
      have bd := sizeH_bd hg h1 (k1.size0 f k) (size0_bd hg k1).1 (size0_bd hg k1).2.2
      exact compR_5 lp k lc h (.cons h1 k1 r) p n cap w0 w hf hks _ _ h5 bd.1 bd.2.1 bd.2.2.1 bd.2.2.2 (fun X p' n' cap' hX hK => ih ok h1 p' n' cap' w0 X hX hK hl hw.1.1.bd hw.1.2)
    · exact leaf ok _ h p n cap w0 w hf hks hl hb h5
set_option maxRecDepth 100000 in
/-- The reference's Size, of every type. -/
theorem sizeR_any (f : Nat → La) (lp : Option Addr) (k lc : Nat) (hg : Good f k) (hk0 : k ≤ lc) (hkc : lc ≤ maxLen) (ks : Tys) (ok : Nat → Prop) (h : Hd) (p : Option Addr) (n cap : Nat) (w0 w : World) (hf : Fresh w0 w) (hks : Kids ok w0 ks p n cap) (hl : LaysAt w0 lp k f) (hb : 0 ≤ h.kind ∧ h.kind ≤ 7) (hw : ks.wf) :
    Calls Tryd.prog 12 #[.agg #[.int .i64 h.kind, .int .i64 h.size, .int .i64 h.len, .bool h.flag, .string h.name, .slice p n cap], .slice lp k lc] w fun e w' => e = .returned (.tuple #[.int .i64 (sizeH f k h (ks.size0 f k)).1, .int .i64 (sizeH f k h (ks.size0 f k)).2]) ∧ Fresh w w' := by
  have HC : Hid (∀ X, Fresh w X → Calls Tryd.prog 47 #[.agg #[.int .i64 h.kind, .int .i64 h.size, .int .i64 h.len, .bool h.flag, .string h.name, .slice p n cap], .slice lp k lc] X (TripR (sizeH f k h (ks.size0 f k)).1 (sizeH f k h (ks.size0 f k)).2 X)) := Lib.hid (fun X hX => compR_any f lp k lc hg hk0 hkc ks ok h p n cap w0 X (hf.trans hX) hks hl hb hw)
  clear hg hk0 hkc hf hks hl hb hw
  generalize (sizeH f k h (ks.size0 f k)).1 = S at *
  generalize (sizeH f k h (ks.size0 f k)).2 = A at *
  go_enter Tryd.func12, Tryd.ntmps12
  go_wp2_with fail
  go_at_call 47; refine (HC.out _ (by (repeat' first | with_reducible exact Fresh.refl _ | with_reducible assumption | with_reducible refine Fresh.alloc ?_ _ _ | with_reducible refine Fresh.drew ?_ | with_reducible refine Fresh.drewN ?_ _ | with_reducible refine Fresh.setCell ?_ ?_ _ | with_reducible refine Fresh.trans ?_ (by assumption) | (simp; done) | (simp; omega)))).mono ?_; rintro e w1 ⟨rfl, h1⟩
  go_wp2_with fail
  go_returns
  exact ⟨rfl, (by (repeat' first | with_reducible exact Fresh.refl _ | with_reducible assumption | with_reducible refine Fresh.alloc ?_ _ _ | with_reducible refine Fresh.drew ?_ | with_reducible refine Fresh.drewN ?_ _ | with_reducible refine Fresh.setCell ?_ ?_ _ | with_reducible refine Fresh.trans ?_ (by assumption) | (simp; done) | (simp; omega)))⟩
end Go.Proofs.YteiomcbphbbpkaaDoor
