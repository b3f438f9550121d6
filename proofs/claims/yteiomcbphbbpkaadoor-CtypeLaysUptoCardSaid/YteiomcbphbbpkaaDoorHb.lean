/- The reference: how great a type is, and whether it is complete. -/
import Derived.Test.YteiomcbphbbpkaaDoorHa
import Derived.Test.YteiomcbphbbpkaaDoorFx
import Derived.Deep.QuietTactic
import Derived.BigQuiet
namespace Go.Proofs.YteiomcbphbbpkaaDoor
set_option linter.unusedSimpArgs false
set_option linter.unusedVariables false
set_option linter.unusedSectionVars false
open Go.RowKit
def TripR (s a : Int) (w : World) (e : Ending) (w' : World) : Prop := e = .returned (.tuple #[.int .i64 s, .int .i64 a, .bool (a != 0)]) ∧ Fresh w w'
section
variable {ok : Nat → Prop} (f : Nat → La) (lp : Option Addr) (k lc : Nat) (h : Hd) (ks : Tys) (p : Option Addr) (n cap : Nat) (w0 w : World)
theorem compR_3 (hk : h.kind = 3) : Calls Tryd.prog 47 #[.agg #[.int .i64 h.kind, .int .i64 h.size, .int .i64 h.len, .bool h.flag, .string h.name, .slice p n cap], .slice lp k lc] w (TripR 8 8 w) := by
  have HKD := Lib.hid hk
  clear hk
  have kk3 : (h.kind == 3) = true := by rw [HKD.out]; rfl
  have kk4 : (h.kind == 4) = false := by rw [HKD.out]; rfl
  have kk2 : (h.kind == 2) = false := by rw [HKD.out]; rfl
  have kk6 : (h.kind == 6) = false := by rw [HKD.out]; rfl
  have kk5 : (h.kind == 5) = false := by rw [HKD.out]; rfl
  go_enter Tryd.func47, Tryd.ntmps47
  go_wp2_with fail
  go_returns
  exact ⟨rfl, (by (repeat' first | with_reducible exact Fresh.refl _ | with_reducible assumption | with_reducible refine Fresh.alloc ?_ _ _ | with_reducible refine Fresh.drew ?_ | with_reducible refine Fresh.drewN ?_ _ | with_reducible refine Fresh.setCell ?_ ?_ _ | with_reducible refine Fresh.trans ?_ (by assumption) | (simp; done) | (simp; omega)))⟩
theorem compR_4 (hk : h.kind = 4) : Calls Tryd.prog 47 #[.agg #[.int .i64 h.kind, .int .i64 h.size, .int .i64 h.len, .bool h.flag, .string h.name, .slice p n cap], .slice lp k lc] w (TripR 8 8 w) := by
  have HKD := Lib.hid hk
  clear hk
  have kk3 : (h.kind == 3) = false := by rw [HKD.out]; rfl
  have kk4 : (h.kind == 4) = true := by rw [HKD.out]; rfl
  have kk2 : (h.kind == 2) = false := by rw [HKD.out]; rfl
  have kk6 : (h.kind == 6) = false := by rw [HKD.out]; rfl
  have kk5 : (h.kind == 5) = false := by rw [HKD.out]; rfl
  go_enter Tryd.func47, Tryd.ntmps47
  go_wp2_with fail
  go_returns
  exact ⟨rfl, (by (repeat' first | with_reducible exact Fresh.refl _ | with_reducible assumption | with_reducible refine Fresh.alloc ?_ _ _ | with_reducible refine Fresh.drew ?_ | with_reducible refine Fresh.drewN ?_ _ | with_reducible refine Fresh.setCell ?_ ?_ _ | with_reducible refine Fresh.trans ?_ (by assumption) | (simp; done) | (simp; omega)))⟩
theorem compR_0 (hk : h.kind = 0) : Calls Tryd.prog 47 #[.agg #[.int .i64 h.kind, .int .i64 h.size, .int .i64 h.len, .bool h.flag, .string h.name, .slice p n cap], .slice lp k lc] w (TripR 0 0 w) := by
  have HKD := Lib.hid hk
  clear hk
  have kk3 : (h.kind == 3) = false := by rw [HKD.out]; rfl
  have kk4 : (h.kind == 4) = false := by rw [HKD.out]; rfl
  have kk2 : (h.kind == 2) = false := by rw [HKD.out]; rfl
  have kk6 : (h.kind == 6) = false := by rw [HKD.out]; rfl
  have kk5 : (h.kind == 5) = false := by rw [HKD.out]; rfl
  go_enter Tryd.func47, Tryd.ntmps47
  go_wp2_with fail
  go_returns
  exact ⟨rfl, (by (repeat' first | with_reducible exact Fresh.refl _ | with_reducible assumption | with_reducible refine Fresh.alloc ?_ _ _ | with_reducible refine Fresh.drew ?_ | with_reducible refine Fresh.drewN ?_ _ | with_reducible refine Fresh.setCell ?_ ?_ _ | with_reducible refine Fresh.trans ?_ (by assumption) | (simp; done) | (simp; omega)))⟩
theorem compR_1 (hk : h.kind = 1) : Calls Tryd.prog 47 #[.agg #[.int .i64 h.kind, .int .i64 h.size, .int .i64 h.len, .bool h.flag, .string h.name, .slice p n cap], .slice lp k lc] w (TripR 0 0 w) := by
  have HKD := Lib.hid hk
  clear hk
  have kk3 : (h.kind == 3) = false := by rw [HKD.out]; rfl
  have kk4 : (h.kind == 4) = false := by rw [HKD.out]; rfl
  have kk2 : (h.kind == 2) = false := by rw [HKD.out]; rfl
  have kk6 : (h.kind == 6) = false := by rw [HKD.out]; rfl
  have kk5 : (h.kind == 5) = false := by rw [HKD.out]; rfl
  go_enter Tryd.func47, Tryd.ntmps47
  go_wp2_with fail
  go_returns
  exact ⟨rfl, (by (repeat' first | with_reducible exact Fresh.refl _ | with_reducible assumption | with_reducible refine Fresh.alloc ?_ _ _ | with_reducible refine Fresh.drew ?_ | with_reducible refine Fresh.drewN ?_ _ | with_reducible refine Fresh.setCell ?_ ?_ _ | with_reducible refine Fresh.trans ?_ (by assumption) | (simp; done) | (simp; omega)))⟩
theorem compR_7 (hk : h.kind = 7) : Calls Tryd.prog 47 #[.agg #[.int .i64 h.kind, .int .i64 h.size, .int .i64 h.len, .bool h.flag, .string h.name, .slice p n cap], .slice lp k lc] w (TripR 0 0 w) := by
  have HKD := Lib.hid hk
  clear hk
  have kk3 : (h.kind == 3) = false := by rw [HKD.out]; rfl
  have kk4 : (h.kind == 4) = false := by rw [HKD.out]; rfl
  have kk2 : (h.kind == 2) = false := by rw [HKD.out]; rfl
  have kk6 : (h.kind == 6) = false := by rw [HKD.out]; rfl
  have kk5 : (h.kind == 5) = false := by rw [HKD.out]; rfl
  go_enter Tryd.func47, Tryd.ntmps47
  go_wp2_with fail
  go_returns
  exact ⟨rfl, (by (repeat' first | with_reducible exact Fresh.refl _ | with_reducible assumption | with_reducible refine Fresh.alloc ?_ _ _ | with_reducible refine Fresh.drew ?_ | with_reducible refine Fresh.drewN ?_ _ | with_reducible refine Fresh.setCell ?_ ?_ _ | with_reducible refine Fresh.trans ?_ (by assumption) | (simp; done) | (simp; omega)))⟩
set_option maxRecDepth 100000 in
set_option maxHeartbeats 4000000 in
theorem compR_2n (hk : h.kind = 2) (hs : numS h.size = false) : Calls Tryd.prog 47 #[.agg #[.int .i64 h.kind, .int .i64 h.size, .int .i64 h.len, .bool h.flag, .string h.name, .slice p n cap], .slice lp k lc] w (TripR 0 0 w) := by
  have HKD := Lib.hid hk
  have HS := Lib.hid hs
  clear hk hs
  have kk3 : (h.kind == 3) = false := by rw [HKD.out]; rfl
  have kk4 : (h.kind == 4) = false := by rw [HKD.out]; rfl
  have kk2 : (h.kind == 2) = true := by rw [HKD.out]; rfl
  have kk6 : (h.kind == 6) = false := by rw [HKD.out]; rfl
  have kk5 : (h.kind == 5) = false := by rw [HKD.out]; rfl
  go_enter Tryd.func47, Tryd.ntmps47
  go_wp2_with fail
  go_at_call 53; refine (number_any h p n cap _).mono ?_; rintro e w1 ⟨rfl, h1⟩
  go_wp2_with fail
  go_at_call 78; refine (numberR h.size h.flag _).mono ?_; rintro e w2 ⟨rfl, h2⟩
  rw [HS.out]
  go_wp2_with fail
  go_returns
  exact ⟨rfl, (by (repeat' first | with_reducible exact Fresh.refl _ | with_reducible assumption | with_reducible refine Fresh.alloc ?_ _ _ | with_reducible refine Fresh.drew ?_ | with_reducible refine Fresh.drewN ?_ _ | with_reducible refine Fresh.setCell ?_ ?_ _ | with_reducible refine Fresh.trans ?_ (by assumption) | (simp; done) | (simp; omega)))⟩
set_option maxRecDepth 100000 in
set_option maxHeartbeats 4000000 in
theorem compR_2y (hk : h.kind = 2) (hs : numS h.size = true) (hz : (h.size != 0) = true) : Calls Tryd.prog 47 #[.agg #[.int .i64 h.kind, .int .i64 h.size, .int .i64 h.len, .bool h.flag, .string h.name, .slice p n cap], .slice lp k lc] w (TripR h.size h.size w) := by
  have HKD := Lib.hid hk
  have HS := Lib.hid hs
  have HZ := Lib.hid hz
  clear hk hs hz
  have kk3 : (h.kind == 3) = false := by rw [HKD.out]; rfl
  have kk4 : (h.kind == 4) = false := by rw [HKD.out]; rfl
  have kk2 : (h.kind == 2) = true := by rw [HKD.out]; rfl
  have kk6 : (h.kind == 6) = false := by rw [HKD.out]; rfl
  have kk5 : (h.kind == 5) = false := by rw [HKD.out]; rfl
  go_enter Tryd.func47, Tryd.ntmps47
  go_wp2_with fail
  go_at_call 53; refine (number_any h p n cap _).mono ?_; rintro e w1 ⟨rfl, h1⟩
  go_wp2_with fail
  have T := Lib.hid (Blk.new w1 #[.int .i64 h.size, .bool h.flag] 62)
  go_at_call 78; refine (numberR h.size h.flag _).mono ?_; rintro e w2 ⟨rfl, h2⟩
  rw [HS.out]
  have x0 := (T.out.fresh h2).1 0 _ rfl
  have xz := cell_lt x0
  simp only at xz
  go_wp2_with fail
  go_quiet (fail)
  go_wp2_with fail
  go_returns
  exact ⟨by rw [HZ.out]; rfl, (by (repeat' first | with_reducible exact Fresh.refl _ | with_reducible assumption | with_reducible refine Fresh.alloc ?_ _ _ | with_reducible refine Fresh.drew ?_ | with_reducible refine Fresh.drewN ?_ _ | with_reducible refine Fresh.setCell ?_ ?_ _ | with_reducible refine Fresh.trans ?_ (by assumption) | (simp; done) | (simp; omega)))⟩
variable (hf : Fresh w0 w) (hl : LaysAt w0 lp k f) (hk0 : k ≤ lc) (hkc : lc ≤ maxLen)
include hf hl hk0 hkc
set_option maxRecDepth 100000 in
set_option maxHeartbeats 4000000 in
theorem compR_6 (hk : h.kind = 6) (hg : Good f k) : Calls Tryd.prog 47 #[.agg #[.int .i64 h.kind, .int .i64 h.size, .int .i64 h.len, .bool h.flag, .string h.name, .slice p n cap], .slice lp k lc] w (TripR (recSize f k h.name h.flag).1 (recSize f k h.name h.flag).2 w) := by
  have HKD := Lib.hid hk
  have HL := Lib.hid hl
  have HF := Lib.hid hf
  have HG := Lib.hid hg
  have HKC := Lib.hid (And.intro hk0 hkc)
  clear hk hl hf hk0 hkc hg
  have kk3 : (h.kind == 3) = false := by rw [HKD.out]; rfl
  have kk4 : (h.kind == 4) = false := by rw [HKD.out]; rfl
  have kk2 : (h.kind == 2) = false := by rw [HKD.out]; rfl
  have kk6 : (h.kind == 6) = true := by rw [HKD.out]; rfl
  have kk5 : (h.kind == 5) = false := by rw [HKD.out]; rfl
  go_enter Tryd.func47, Tryd.ntmps47
  go_wp2_with fail
  go_at_call 54; refine (record_any h p n cap _).mono ?_; rintro e w1 ⟨rfl, h1⟩
  have H1 := Lib.hid (show Fresh w w1 from (by (repeat' first | with_reducible exact Fresh.refl _ | with_reducible assumption | with_reducible refine Fresh.alloc ?_ _ _ | with_reducible refine Fresh.drew ?_ | with_reducible refine Fresh.drewN ?_ _ | with_reducible refine Fresh.setCell ?_ ?_ _ | with_reducible refine Fresh.trans ?_ (by assumption) | (simp; done) | (simp; omega))))
  clear h1
  go_wp2_with fail
  have T := Lib.hid (Blk.new w1 #[.string h.name, .bool h.flag] 67)
  go_at_call 15; refine (findR_any f lp k lc h.name w0 _ (HF.out.trans (H1.out.trans (by (repeat' first | with_reducible exact Fresh.refl _ | with_reducible assumption | with_reducible refine Fresh.alloc ?_ _ _ | with_reducible refine Fresh.drew ?_ | with_reducible refine Fresh.drewN ?_ _ | with_reducible refine Fresh.setCell ?_ ?_ _ | with_reducible refine Fresh.trans ?_ (by assumption) | (simp; done) | (simp; omega))))) HL.out HKC.out.1 HKC.out.2).mono ?_; rintro e w2 ⟨⟨l, q, rfl, hq⟩, h2⟩
  have x1 := (T.out.fresh h2).1 1 _ rfl
  have xz := cell_lt x1
  simp only at xz
  have H2 := Lib.hid (H1.out.trans (show Fresh w1 w2 from (by (repeat' first | with_reducible exact Fresh.refl _ | with_reducible assumption | with_reducible refine Fresh.alloc ?_ _ _ | with_reducible refine Fresh.drew ?_ | with_reducible refine Fresh.drewN ?_ _ | with_reducible refine Fresh.setCell ?_ ?_ _ | with_reducible refine Fresh.trans ?_ (by assumption) | (simp; done) | (simp; omega)))))
  clear h2 T
  rcases hq with ⟨i, hi, rfl, rfl, hn, hj⟩ | ⟨rfl, rfl, hj⟩
  · have HR := Lib.hid (recSize_some h.flag hi hn hj)
    have HGI := Lib.hid (HG.out i hi)
    clear hn hj
    cases hu : ((f i).un == h.flag)
    · have HU := Lib.hid hu
      go_wp2_with fail
      go_returns
      refine ⟨by rw [HR.out, HU.out]; rfl, H2.out.trans (by (repeat' first | with_reducible exact Fresh.refl _ | with_reducible assumption | with_reducible refine Fresh.alloc ?_ _ _ | with_reducible refine Fresh.drew ?_ | with_reducible refine Fresh.drewN ?_ _ | with_reducible refine Fresh.setCell ?_ ?_ _ | with_reducible refine Fresh.trans ?_ (by assumption) | (simp; done) | (simp; omega)))⟩
    · have HU := Lib.hid hu
      have hal : ((f i).al != 0) = true := by have := HGI.out; simp; omega
      have HAL := Lib.hid hal
      clear hal
      go_wp2_with fail
      go_quiet (fail)
      go_wp2_with fail
      go_returns
      refine ⟨by rw [HR.out, HU.out]; simp only [if_true]; rw [HAL.out]; rfl, H2.out.trans (by (repeat' first | with_reducible exact Fresh.refl _ | with_reducible assumption | with_reducible refine Fresh.alloc ?_ _ _ | with_reducible refine Fresh.drew ?_ | with_reducible refine Fresh.drewN ?_ _ | with_reducible refine Fresh.setCell ?_ ?_ _ | with_reducible refine Fresh.trans ?_ (by assumption) | (simp; done) | (simp; omega)))⟩
  · have HR := Lib.hid (recSize_none h.flag hj)
    clear hj
    go_wp2_with fail
    go_returns
    refine ⟨by rw [HR.out]; rfl, H2.out.trans (by (repeat' first | with_reducible exact Fresh.refl _ | with_reducible assumption | with_reducible refine Fresh.alloc ?_ _ _ | with_reducible refine Fresh.drew ?_ | with_reducible refine Fresh.drewN ?_ _ | with_reducible refine Fresh.setCell ?_ ?_ _ | with_reducible refine Fresh.trans ?_ (by assumption) | (simp; done) | (simp; omega)))⟩
end
end Go.Proofs.YteiomcbphbbpkaaDoor
