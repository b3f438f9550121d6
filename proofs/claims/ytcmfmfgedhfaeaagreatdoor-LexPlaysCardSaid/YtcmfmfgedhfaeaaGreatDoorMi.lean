/- The library's variables that lex reads: what a row lists of them. -/
import Derived.Test.YtcmfmfgedhfaeaaGreatDoorLk
import Derived.Lib.LaidU8
import GoSem.PinnedTables
import Derived.KernelRfl
namespace Go.Proofs.YtcmfmfgedhfaeaaGreatDoor
set_option linter.unusedSimpArgs false
set_option linter.unusedVariables false
open Go.RowKit Go.Lib

set_option maxRecDepth 100000 in
theorem first_eq : Go.Pinned.utf8First = firstData := by kernel_rfl
set_option maxRecDepth 100000 in
theorem accept_eq : (Rows.laid_unicode_utf8_acceptRanges : DataW Unit) = acceptData := by kernel_rfl
theorem u8x : U8Extra Tryz.prog Tryz.lays260_ren := ⟨by kernel_rfl, by kernel_rfl, by kernel_rfl, by kernel_rfl, by kernel_rfl, by kernel_rfl, by kernel_rfl⟩
/-- An error's variable holds an interface value. -/
theorem iface_of_reads {w : World} {n nm : String} {d : DataW Unit} {g : Nat} (hn : Tryz.prog.globalNamed n = some g) (ht : (Tryz.prog.globals[g]?).map (·.type) = some 49) (h : VarReads Tryz.prog w n (.iface nm d)) :
    ∃ te pe, w.cell? ⟨g, 0, none⟩ = some (.iface te pe) := by
  obtain ⟨g', t, cs, fuel, p, hg, hty, hvar, hd⟩ := h
  obtain rfl := Option.some.inj (hn.symm.trans hg)
  obtain rfl := Option.some.inj (ht.symm.trans hty)
  have hc := World.var?_cell hn hvar 0
  rw [hc, ← Array.getElem?_toList]
  cases fuel with
  | zero => simp [DataW.trod] at hd
  | succ fuel =>
    obtain ⟨l, hl⟩ : ∃ l, l = cs.toList := ⟨_, rfl⟩
    rw [← hl] at hd ⊢
    cases l with
    | nil => simp [DataW.trod, Tryz.underlying49] at hd
    | cons a r =>
      cases r with
      | cons b r => simp [DataW.trod, Tryz.underlying49] at hd
      | nil => cases a <;> first | (simp [DataW.trod, Tryz.underlying49] at hd; done) | exact ⟨_, _, rfl⟩
theorem tabs_of {W : World} (l : List (String × DataW Unit)) (h : laidMet Tryz.prog l W) (m1 : ("strconv.ErrSyntax", Rows.laid_strconv_ErrSyntax) ∈ l) (m2 : ("strconv.ErrRange", Rows.laid_strconv_ErrRange) ∈ l)
    (m3 : ("unicode/utf8.first", Rows.laid_unicode_utf8_first) ∈ l) (m4 : ("unicode/utf8.acceptRanges", Rows.laid_unicode_utf8_acceptRanges) ∈ l) : Tabs W := by
  refine ⟨?_, ?_, ?_⟩
  · obtain ⟨te, pe, hc⟩ := iface_of_reads (g := 1) (by kernel_rfl) (by kernel_rfl) (laidMet.reads h m1)
    exact ⟨_, hc, Or.inr ⟨te, pe, rfl⟩⟩
  · obtain ⟨te, pe, hc⟩ := iface_of_reads (g := 2) (by kernel_rfl) (by kernel_rfl) (laidMet.reads h m2)
    exact ⟨_, hc, Or.inr ⟨te, pe, rfl⟩⟩
  · have h3 := laidMet.reads h m3
    have h4 := laidMet.reads h m4
    rw [show (Rows.laid_unicode_utf8_first : DataW Unit) = firstData from first_eq] at h3
    rw [accept_eq] at h4
    exact utf8Tabs_of_reads Tryz.lays260 u8x h3 h4
end Go.Proofs.YtcmfmfgedhfaeaaGreatDoor
