/- Reserved words, signs; runes that are blank, letters, digits. -/
import Derived.Test.YtcmfmfgedhfaeaaGreatDoorLa
namespace Go.Proofs.YtcmfmfgedhfaeaaGreatDoor
set_option linter.unusedSimpArgs false
set_option linter.unusedVariables false
open Go.RowKit

def blankZ (r : Int) : Bool := r == 32 || r == 9 || r == 13 || r == 10
def letterZ (r : Int) : Bool := decide (97 ≤ r) && decide (r ≤ 122) || decide (65 ≤ r) && decide (r ≤ 90) || r == 95
def digitZ (r : Int) : Bool := decide (48 ≤ r) && decide (r ≤ 57)
theorem isBlank_any (r : Int) (w : World) : Calls Tryz.prog 26 #[.int .i32 r] w fun e w' => e = .returned (.bool (blankZ r)) ∧ Fresh w w' := by
  have hc : r = 32 ∨ r = 9 ∨ r = 13 ∨ r = 10 ∨ (r ≠ 32 ∧ r ≠ 9 ∧ r ≠ 13 ∧ r ≠ 10) := by omega
  rcases hc with rfl | rfl | rfl | rfl | ⟨h1, h2, h3, h4⟩
  · go_enter Tryz.func26, Tryz.ntmps26
    go_wp2_with fail
    go_returns
    exact ⟨rfl, Fresh.refl _⟩
  · go_enter Tryz.func26, Tryz.ntmps26
    go_wp2_with fail
    go_returns
    exact ⟨rfl, Fresh.refl _⟩
  · go_enter Tryz.func26, Tryz.ntmps26
    go_wp2_with fail
    go_returns
    exact ⟨rfl, Fresh.refl _⟩
  · go_enter Tryz.func26, Tryz.ntmps26
    go_wp2_with fail
    go_returns
    exact ⟨rfl, Fresh.refl _⟩
  · have b1 : (r == 32) = false := by simpa using h1
    have b2 : (r == 9) = false := by simpa using h2
    have b3 : (r == 13) = false := by simpa using h3
    have b4 : (r == 10) = false := by simpa using h4
    have he : blankZ r = false := by simp [blankZ, h1, h2, h3, h4]
    rw [he]
    go_enter Tryz.func26, Tryz.ntmps26
    go_wp2_with fail
    go_returns
    exact ⟨rfl, Fresh.refl _⟩
theorem isDigit_any (r : Int) (w : World) : Calls Tryz.prog 39 #[.int .i32 r] w fun e w' => e = .returned (.bool (digitZ r)) ∧ Fresh w w' := by
  have hc : (48 ≤ r ∧ r ≤ 57) ∨ (48 ≤ r ∧ ¬ r ≤ 57) ∨ ¬ 48 ≤ r := by omega
  rcases hc with ⟨h1, h2⟩ | ⟨h1, h2⟩ | h1
  · have he : digitZ r = true := by simp [digitZ, h1, h2]
    rw [he]
    go_enter Tryz.func39, Tryz.ntmps39
    go_wp2_with fail
    go_returns
    exact ⟨rfl, Fresh.refl _⟩
  · have he : digitZ r = false := by simp [digitZ, h1, h2]
    rw [he]
    go_enter Tryz.func39, Tryz.ntmps39
    go_wp2_with fail
    go_returns
    exact ⟨rfl, Fresh.refl _⟩
  · have he : digitZ r = false := by simp [digitZ, h1]
    rw [he]
    go_enter Tryz.func39, Tryz.ntmps39
    go_wp2_with fail
    go_returns
    exact ⟨rfl, Fresh.refl _⟩
theorem isLetter_any (r : Int) (w : World) : Calls Tryz.prog 37 #[.int .i32 r] w fun e w' => e = .returned (.bool (letterZ r)) ∧ Fresh w w' := by
  have hc : (97 ≤ r ∧ r ≤ 122) ∨ (97 ≤ r ∧ ¬ r ≤ 122 ∧ 65 ≤ r ∧ ¬ r ≤ 90 ∧ r ≠ 95) ∨ (¬ 97 ≤ r ∧ 65 ≤ r ∧ r ≤ 90) ∨ r = 95 ∨ (¬ 97 ≤ r ∧ 65 ≤ r ∧ ¬ r ≤ 90 ∧ r ≠ 95) ∨ (¬ 97 ≤ r ∧ ¬ 65 ≤ r ∧ r ≠ 95) := by omega
  rcases hc with ⟨h1, h2⟩ | ⟨h1, h2, h3, h4, h5⟩ | ⟨h1, h2, h3⟩ | rfl | ⟨h1, h2, h3, h4⟩ | ⟨h1, h2, h3⟩
  · have he : letterZ r = true := by simp [letterZ, h1, h2]
    rw [he]
    go_enter Tryz.func37, Tryz.ntmps37
    go_wp2_with fail
    go_returns
    exact ⟨rfl, Fresh.refl _⟩
  · have he : letterZ r = false := by simp [letterZ, h1, h2, h3, h4, h5]
    have b5 : (r == 95) = false := by simpa using h5
    rw [he]
    go_enter Tryz.func37, Tryz.ntmps37
    go_wp2_with fail
    go_returns
    exact ⟨rfl, Fresh.refl _⟩
  · have he : letterZ r = true := by simp [letterZ, h1, h2, h3]
    rw [he]
    go_enter Tryz.func37, Tryz.ntmps37
    go_wp2_with fail
    go_returns
    exact ⟨rfl, Fresh.refl _⟩
  · go_enter Tryz.func37, Tryz.ntmps37
    go_wp2_with fail
    go_returns
    exact ⟨rfl, Fresh.refl _⟩
  · have he : letterZ r = false := by simp [letterZ, h1, h2, h3, h4]
    have b5 : (r == 95) = false := by simpa using h4
    rw [he]
    go_enter Tryz.func37, Tryz.ntmps37
    go_wp2_with fail
    go_returns
    exact ⟨rfl, Fresh.refl _⟩
  · have he : letterZ r = false := by simp [letterZ, h1, h2, h3]
    have b5 : (r == 95) = false := by simpa using h3
    rw [he]
    go_enter Tryz.func37, Tryz.ntmps37
    go_wp2_with fail
    go_returns
    exact ⟨rfl, Fresh.refl _⟩
end Go.Proofs.YtcmfmfgedhfaeaaGreatDoor
