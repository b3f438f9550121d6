/- Size, Fix, Free. -/
import Derived.Test.YtjbflmpnmobngaaMs
namespace Go.Proofs.Ytjbflmpnmobngaa
set_option linter.unusedSimpArgs false
set_option linter.unusedVariables false
open Go.RowKit

variable {w : World} {M mb N : Nat} {made : Int} {f : Int → Option Nat}
theorem live_some (n : Int) (hn : Key n) (B : Nat) (hf : f n = some B) (h : MRep w M mb N made f) :
    Calls Try.prog 31 #[.pointer (some ⟨M, 0, none⟩), .int .i64 n] w fun e w' => e = .returned (.pointer (some ⟨B, 0, none⟩)) ∧ w = w' := by
  have := live_any M mb N (blkV f) n hn w h.c0 h.mp
  rw [show blkV f n = some (.pointer (some ⟨B, 0, none⟩)) by simp [blkV, hf]] at this
  exact this
theorem live_none (n : Int) (hn : Key n) (hf : f n = none) (h : MRep w M mb N made f) :
    Calls Try.prog 31 #[.pointer (some ⟨M, 0, none⟩), .int .i64 n] w fun e w' => e = .returned (.pointer none) ∧ w = w' := by
  have := live_any M mb N (blkV f) n hn w h.c0 h.mp
  rw [show blkV f n = none by simp [blkV, hf]] at this
  exact this
theorem size_some (n : Int) (hn : Key n) (B : Nat) (sz : Int) (hf : f n = some B) (h : MRep w M mb N made f) (hc : w.cell? ⟨B, 0, none⟩ = some (.int .i64 sz)) :
    Calls Try.prog 21 #[.pointer (some ⟨M, 0, none⟩), .int .i64 n] w fun e w' => e = .returned (.tuple #[.int .i64 sz, .bool true]) ∧ w = w' := by
  have H := Lib.hid h
  have HN := Lib.hid hn
  have HF := Lib.hid hf
  clear h hn hf
  go_enter Try.func21, Try.ntmps21
  go_wp2_with (go_at_call 31; refine (live_some n HN.out B HF.out H.out).mono ?_; rintro e w' ⟨rfl, rfl⟩)
  go_returns
  exact ⟨rfl, rfl⟩
theorem size_none (n : Int) (hn : Key n) (hf : f n = none) (h : MRep w M mb N made f) :
    Calls Try.prog 21 #[.pointer (some ⟨M, 0, none⟩), .int .i64 n] w fun e w' => e = .returned (.tuple #[.int .i64 0, .bool false]) ∧ w = w' := by
  have H := Lib.hid h
  have HN := Lib.hid hn
  have HF := Lib.hid hf
  clear h hn hf
  go_enter Try.func21, Try.ntmps21
  go_wp2_with (go_at_call 31; refine (live_none n HN.out HF.out H.out).mono ?_; rintro e w' ⟨rfl, rfl⟩)
  go_returns
  exact ⟨rfl, rfl⟩
theorem fix_none (n : Int) (hn : Key n) (hf : f n = none) (h : MRep w M mb N made f) :
    Calls Try.prog 13 #[.pointer (some ⟨M, 0, none⟩), .int .i64 n] w fun e w' => e = .returned (.bool false) ∧ w = w' := by
  have H := Lib.hid h
  have HN := Lib.hid hn
  have HF := Lib.hid hf
  clear h hn hf
  go_enter Try.func13, Try.ntmps13
  go_wp2_with (go_at_call 31; refine (live_none n HN.out HF.out H.out).mono ?_; rintro e w' ⟨rfl, rfl⟩)
  go_returns
  exact ⟨rfl, rfl⟩
theorem fix_some (n : Int) (hn : Key n) (B : Nat) (x : Bool) (hf : f n = some B) (h : MRep w M mb N made f) (hc : w.cell? ⟨B, 1, none⟩ = some (.bool x)) (hz : w.frozen? ⟨B, 1, none⟩ = false) :
    Calls Try.prog 13 #[.pointer (some ⟨M, 0, none⟩), .int .i64 n] w fun e w' => e = .returned (.bool true) ∧ w' = w.setCell ⟨B, 1, none⟩ (.bool true) := by
  have H := Lib.hid h
  have HN := Lib.hid hn
  have HF := Lib.hid hf
  clear h hn hf
  go_enter Try.func13, Try.ntmps13
  go_wp2_with (go_at_call 31; refine (live_some n HN.out B HF.out H.out).mono ?_; rintro e w' ⟨rfl, rfl⟩)
  go_returns
  exact ⟨rfl, rfl⟩
theorem free_none (n : Int) (hn : Key n) (hf : f n = none) (h : MRep w M mb N made f) :
    Calls Try.prog 11 #[.pointer (some ⟨M, 0, none⟩), .int .i64 n] w fun e w' => e = .returned (.bool false) ∧ w = w' := by
  have H := Lib.hid h
  have HN := Lib.hid hn
  have HF := Lib.hid hf
  clear h hn hf
  go_enter Try.func11, Try.ntmps11
  go_wp2_with (go_at_call 31; refine (live_none n HN.out HF.out H.out).mono ?_; rintro e w' ⟨rfl, rfl⟩)
  go_returns
  exact ⟨rfl, rfl⟩
def delB (f : Int → Option Nat) (i : Int) : Int → Option Nat := fun x => if x = i then none else f x
theorem blkV_del (f : Int → Option Nat) (i : Int) : blkV (delB f i) = delF (blkV f) i := by
  funext x; unfold blkV delB delF; by_cases h : x = i <;> simp [h]
def Freed (M mb N : Nat) (made : Int) (f : Int → Option Nat) (w : World) (e : Ending) (w' : World) : Prop :=
  e = .returned (.bool true) ∧ MRep w' M mb N made f ∧ Touch (fun k => k = mb) w w'
theorem free_some (n : Int) (hn : Key n) (B : Nat) (hf : f n = some B) (h : MRep w M mb N made f) :
    Calls Try.prog 11 #[.pointer (some ⟨M, 0, none⟩), .int .i64 n] w (Freed M mb N made (delB f n) w) := by
  have H := Lib.hid h
  have HN := Lib.hid hn
  have HF := Lib.hid hf
  have c0 := h.c0
  clear h hn hf
  go_enter Try.func11, Try.ntmps11
  go_wp2_with (first | (go_at_call 31; refine (live_some n HN.out B HF.out H.out).mono ?_; rintro e w' ⟨rfl, rfl⟩) | (at_delete; refine wpList_dropF _ rfl _ _ 56 3 rfl 59 Try.underlying3 Try.underlying56 mb N _ rfl H.out.mp n rfl HN.out ?_; intro w1 hown1 hturn1))
  go_returns
  have hM : M < w.heap.size := cell_lt H.out.c0
  have kM := hturn1.grown.block M hM (by simpa using fun e : M = mb => H.out.mp.ne H.out.c0 e.symm)
  exact ⟨rfl, ⟨cell_kept H.out.c0 kM, cell_kept H.out.c1 kM, by rw [blkV_del]; exact hown1, fun o => by rw [hturn1.frozen]; exact H.out.fr o, H.out.m0, fun i B hi => H.out.fm i B (by unfold delB at hi; split at hi; cases hi; exact hi)⟩, (Touch.refl _ _).turned hturn1 (Or.inl rfl)⟩
end Go.Proofs.Ytjbflmpnmobngaa
