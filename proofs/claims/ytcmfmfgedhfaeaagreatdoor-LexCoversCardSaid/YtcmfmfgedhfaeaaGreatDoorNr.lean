/- LexCovers' function, whatever the text is. -/
import Derived.Test.YtcmfmfgedhfaeaaGreatDoorNq
namespace Go.Proofs.YtcmfmfgedhfaeaaGreatDoor
set_option linter.unusedSimpArgs false
set_option linter.unusedVariables false
open Go.RowKit

theorem tok_some (s : ByteArray) (ts : List Tk) (h : tokensF s = .ok ts) : ts ≠ [] := by
  have hs := tok_size s ts h
  rw [tokensF_L s hs] at h
  cases hb : brk s.data.toList 1 1 with
  | some p => rw [hb] at h; cases h
  | none =>
    rw [hb] at h
    exact pcs_ne _ 0 1 1 ts hb (Nat.zero_le _) h
theorem covers_any (a : ByteArray) (w : World) (hT : Tabs w) : Calls Tryz.prog 4 #[.string a] w fun e w' => e = .returned (.bool true) ∧ Fresh w w' := by
  cases ha : tokensF a with
  | err l c x =>
    rcases tok_place a l c x ha with rfl | ⟨hx, hl, hc⟩
    · exact covers_err1 a l c ha w hT
    · exact covers_err2 a l c x ha (by rcases hx with rfl | rfl <;> rfl) (by rcases hx with rfl | rfl <;> rfl) (by omega) (by rcases hx with rfl | rfl <;> rfl) (by omega) hl hc w hT
  | ok ts =>
    have hs := tok_size a ts ha
    obtain ⟨h1, h2, h3⟩ := tok_covers a ts ha hs
    exact covers_ok a ts ts.length rfl (tok_bound a ts ha).1 ha (tok_some a ts ha) hs h1 h2 h3 w hT
end Go.Proofs.YtcmfmfgedhfaeaaGreatDoor
