/- Reserved words and signs. -/
import Derived.Test.YtcmfmfgedhfaeaaGreatDoorLa
namespace Go.Proofs.YtcmfmfgedhfaeaaGreatDoor
set_option linter.unusedSimpArgs false
set_option linter.unusedVariables false
open Go.RowKit

def wordsL : List (List UInt8) := [[98, 114, 101, 97, 107], [99, 97, 115, 101], [99, 104, 97, 114], [99, 111, 110, 116, 105, 110, 117, 101], [100, 101, 102, 97, 117, 108, 116], [100, 111], [100, 111, 117, 98, 108, 101], [101, 108, 115, 101], [101, 120, 116, 101, 114, 110], [102, 111, 114], [103, 111, 116, 111], [105, 102], [105, 110, 116], [108, 111, 110, 103], [114, 101, 116, 117, 114, 110], [115, 104, 111, 114, 116], [115, 105, 103, 110, 101, 100], [115, 105, 122, 101, 111, 102], [115, 116, 114, 117, 99, 116], [115, 119, 105, 116, 99, 104], [117, 110, 105, 111, 110], [117, 110, 115, 105, 103, 110, 101, 100], [118, 111, 105, 100], [119, 104, 105, 108, 101]]
set_option maxRecDepth 100000 in
set_option maxHeartbeats 16000000 in
theorem word_any (s : ByteArray) (w : World) : Calls Tryz.prog 13 #[.string s] w fun e w' => e = .returned (.bool (decide (s.toList ∈ wordsL))) ∧ Fresh w w' := by
  by_cases h0 : s.toList = [98, 114, 101, 97, 107]
  · have hr : decide (s.toList ∈ wordsL) = true := by rw [h0]; decide
    rw [hr]
    have b0 : (s.toList == [98, 114, 101, 97, 107]) = true := by simp [h0]
    clear hr h0
    go_enter Tryz.func13, Tryz.ntmps13
    go_wp2_with fail
    go_returns
    exact ⟨rfl, Fresh.refl _⟩
  have b0 : (s.toList == [98, 114, 101, 97, 107]) = false := by simp [h0]
  have H0 := Lib.hid h0
  clear h0
  by_cases h1 : s.toList = [99, 97, 115, 101]
  · have hr : decide (s.toList ∈ wordsL) = true := by rw [h1]; decide
    rw [hr]
    have b1 : (s.toList == [99, 97, 115, 101]) = true := by simp [h1]
    clear hr h1
    go_enter Tryz.func13, Tryz.ntmps13
    go_wp2_with fail
    go_returns
    exact ⟨rfl, Fresh.refl _⟩
  have b1 : (s.toList == [99, 97, 115, 101]) = false := by simp [h1]
  have H1 := Lib.hid h1
  clear h1
  by_cases h2 : s.toList = [99, 104, 97, 114]
  · have hr : decide (s.toList ∈ wordsL) = true := by rw [h2]; decide
    rw [hr]
    have b2 : (s.toList == [99, 104, 97, 114]) = true := by simp [h2]
    clear hr h2
    go_enter Tryz.func13, Tryz.ntmps13
    go_wp2_with fail
    go_returns
    exact ⟨rfl, Fresh.refl _⟩
  have b2 : (s.toList == [99, 104, 97, 114]) = false := by simp [h2]
  have H2 := Lib.hid h2
  clear h2
  by_cases h3 : s.toList = [99, 111, 110, 116, 105, 110, 117, 101]
  · have hr : decide (s.toList ∈ wordsL) = true := by rw [h3]; decide
    rw [hr]
    have b3 : (s.toList == [99, 111, 110, 116, 105, 110, 117, 101]) = true := by simp [h3]
    clear hr h3
    go_enter Tryz.func13, Tryz.ntmps13
    go_wp2_with fail
    go_returns
    exact ⟨rfl, Fresh.refl _⟩
  have b3 : (s.toList == [99, 111, 110, 116, 105, 110, 117, 101]) = false := by simp [h3]
  have H3 := Lib.hid h3
  clear h3
  by_cases h4 : s.toList = [100, 101, 102, 97, 117, 108, 116]
  · have hr : decide (s.toList ∈ wordsL) = true := by rw [h4]; decide
    rw [hr]
    have b4 : (s.toList == [100, 101, 102, 97, 117, 108, 116]) = true := by simp [h4]
    clear hr h4
    go_enter Tryz.func13, Tryz.ntmps13
    go_wp2_with fail
    go_returns
    exact ⟨rfl, Fresh.refl _⟩
  have b4 : (s.toList == [100, 101, 102, 97, 117, 108, 116]) = false := by simp [h4]
  have H4 := Lib.hid h4
  clear h4
  by_cases h5 : s.toList = [100, 111]
  · have hr : decide (s.toList ∈ wordsL) = true := by rw [h5]; decide
    rw [hr]
    have b5 : (s.toList == [100, 111]) = true := by simp [h5]
    clear hr h5
    go_enter Tryz.func13, Tryz.ntmps13
    go_wp2_with fail
    go_returns
    exact ⟨rfl, Fresh.refl _⟩
  have b5 : (s.toList == [100, 111]) = false := by simp [h5]
  have H5 := Lib.hid h5
  clear h5
  by_cases h6 : s.toList = [100, 111, 117, 98, 108, 101]
  · have hr : decide (s.toList ∈ wordsL) = true := by rw [h6]; decide
    rw [hr]
    have b6 : (s.toList == [100, 111, 117, 98, 108, 101]) = true := by simp [h6]
    clear hr h6
    go_enter Tryz.func13, Tryz.ntmps13
    go_wp2_with fail
    go_returns
    exact ⟨rfl, Fresh.refl _⟩
  have b6 : (s.toList == [100, 111, 117, 98, 108, 101]) = false := by simp [h6]
  have H6 := Lib.hid h6
  clear h6
  by_cases h7 : s.toList = [101, 108, 115, 101]
  · have hr : decide (s.toList ∈ wordsL) = true := by rw [h7]; decide
    rw [hr]
    have b7 : (s.toList == [101, 108, 115, 101]) = true := by simp [h7]
    clear hr h7
    go_enter Tryz.func13, Tryz.ntmps13
    go_wp2_with fail
    go_returns
    exact ⟨rfl, Fresh.refl _⟩
  have b7 : (s.toList == [101, 108, 115, 101]) = false := by simp [h7]
  have H7 := Lib.hid h7
  clear h7
  by_cases h8 : s.toList = [101, 120, 116, 101, 114, 110]
  · have hr : decide (s.toList ∈ wordsL) = true := by rw [h8]; decide
    rw [hr]
    have b8 : (s.toList == [101, 120, 116, 101, 114, 110]) = true := by simp [h8]
    clear hr h8
    go_enter Tryz.func13, Tryz.ntmps13
    go_wp2_with fail
    go_returns
    exact ⟨rfl, Fresh.refl _⟩
  have b8 : (s.toList == [101, 120, 116, 101, 114, 110]) = false := by simp [h8]
  have H8 := Lib.hid h8
  clear h8
  by_cases h9 : s.toList = [102, 111, 114]
  · have hr : decide (s.toList ∈ wordsL) = true := by rw [h9]; decide
    rw [hr]
    have b9 : (s.toList == [102, 111, 114]) = true := by simp [h9]
    clear hr h9
    go_enter Tryz.func13, Tryz.ntmps13
    go_wp2_with fail
    go_returns
    exact ⟨rfl, Fresh.refl _⟩
  have b9 : (s.toList == [102, 111, 114]) = false := by simp [h9]
  have H9 := Lib.hid h9
  clear h9
  by_cases h10 : s.toList = [103, 111, 116, 111]
  · have hr : decide (s.toList ∈ wordsL) = true := by rw [h10]; decide
    rw [hr]
    have b10 : (s.toList == [103, 111, 116, 111]) = true := by simp [h10]
    clear hr h10
    go_enter Tryz.func13, Tryz.ntmps13
    go_wp2_with fail
    go_returns
    exact ⟨rfl, Fresh.refl _⟩
  have b10 : (s.toList == [103, 111, 116, 111]) = false := by simp [h10]
  have H10 := Lib.hid h10
  clear h10
  by_cases h11 : s.toList = [105, 102]
  · have hr : decide (s.toList ∈ wordsL) = true := by rw [h11]; decide
    rw [hr]
    have b11 : (s.toList == [105, 102]) = true := by simp [h11]
    clear hr h11
    go_enter Tryz.func13, Tryz.ntmps13
    go_wp2_with fail
    go_returns
    exact ⟨rfl, Fresh.refl _⟩
  have b11 : (s.toList == [105, 102]) = false := by simp [h11]
  have H11 := Lib.hid h11
  clear h11
  by_cases h12 : s.toList = [105, 110, 116]
  · have hr : decide (s.toList ∈ wordsL) = true := by rw [h12]; decide
    rw [hr]
    have b12 : (s.toList == [105, 110, 116]) = true := by simp [h12]
    clear hr h12
    go_enter Tryz.func13, Tryz.ntmps13
    go_wp2_with fail
    go_returns
    exact ⟨rfl, Fresh.refl _⟩
  have b12 : (s.toList == [105, 110, 116]) = false := by simp [h12]
  have H12 := Lib.hid h12
  clear h12
  by_cases h13 : s.toList = [108, 111, 110, 103]
  · have hr : decide (s.toList ∈ wordsL) = true := by rw [h13]; decide
    rw [hr]
    have b13 : (s.toList == [108, 111, 110, 103]) = true := by simp [h13]
    clear hr h13
    go_enter Tryz.func13, Tryz.ntmps13
    go_wp2_with fail
    go_returns
    exact ⟨rfl, Fresh.refl _⟩
  have b13 : (s.toList == [108, 111, 110, 103]) = false := by simp [h13]
  have H13 := Lib.hid h13
  clear h13
  by_cases h14 : s.toList = [114, 101, 116, 117, 114, 110]
  · have hr : decide (s.toList ∈ wordsL) = true := by rw [h14]; decide
    rw [hr]
    have b14 : (s.toList == [114, 101, 116, 117, 114, 110]) = true := by simp [h14]
    clear hr h14
    go_enter Tryz.func13, Tryz.ntmps13
    go_wp2_with fail
    go_returns
    exact ⟨rfl, Fresh.refl _⟩
  have b14 : (s.toList == [114, 101, 116, 117, 114, 110]) = false := by simp [h14]
  have H14 := Lib.hid h14
  clear h14
  by_cases h15 : s.toList = [115, 104, 111, 114, 116]
  · have hr : decide (s.toList ∈ wordsL) = true := by rw [h15]; decide
    rw [hr]
    have b15 : (s.toList == [115, 104, 111, 114, 116]) = true := by simp [h15]
    clear hr h15
    go_enter Tryz.func13, Tryz.ntmps13
    go_wp2_with fail
    go_returns
    exact ⟨rfl, Fresh.refl _⟩
  have b15 : (s.toList == [115, 104, 111, 114, 116]) = false := by simp [h15]
  have H15 := Lib.hid h15
  clear h15
  by_cases h16 : s.toList = [115, 105, 103, 110, 101, 100]
  · have hr : decide (s.toList ∈ wordsL) = true := by rw [h16]; decide
    rw [hr]
    have b16 : (s.toList == [115, 105, 103, 110, 101, 100]) = true := by simp [h16]
    clear hr h16
    go_enter Tryz.func13, Tryz.ntmps13
    go_wp2_with fail
    go_returns
    exact ⟨rfl, Fresh.refl _⟩
  have b16 : (s.toList == [115, 105, 103, 110, 101, 100]) = false := by simp [h16]
  have H16 := Lib.hid h16
  clear h16
  by_cases h17 : s.toList = [115, 105, 122, 101, 111, 102]
  · have hr : decide (s.toList ∈ wordsL) = true := by rw [h17]; decide
    rw [hr]
    have b17 : (s.toList == [115, 105, 122, 101, 111, 102]) = true := by simp [h17]
    clear hr h17
    go_enter Tryz.func13, Tryz.ntmps13
    go_wp2_with fail
    go_returns
    exact ⟨rfl, Fresh.refl _⟩
  have b17 : (s.toList == [115, 105, 122, 101, 111, 102]) = false := by simp [h17]
  have H17 := Lib.hid h17
  clear h17
  by_cases h18 : s.toList = [115, 116, 114, 117, 99, 116]
  · have hr : decide (s.toList ∈ wordsL) = true := by rw [h18]; decide
    rw [hr]
    have b18 : (s.toList == [115, 116, 114, 117, 99, 116]) = true := by simp [h18]
    clear hr h18
    go_enter Tryz.func13, Tryz.ntmps13
    go_wp2_with fail
    go_returns
    exact ⟨rfl, Fresh.refl _⟩
  have b18 : (s.toList == [115, 116, 114, 117, 99, 116]) = false := by simp [h18]
  have H18 := Lib.hid h18
  clear h18
  by_cases h19 : s.toList = [115, 119, 105, 116, 99, 104]
  · have hr : decide (s.toList ∈ wordsL) = true := by rw [h19]; decide
    rw [hr]
    have b19 : (s.toList == [115, 119, 105, 116, 99, 104]) = true := by simp [h19]
    clear hr h19
    go_enter Tryz.func13, Tryz.ntmps13
    go_wp2_with fail
    go_returns
    exact ⟨rfl, Fresh.refl _⟩
  have b19 : (s.toList == [115, 119, 105, 116, 99, 104]) = false := by simp [h19]
  have H19 := Lib.hid h19
  clear h19
  by_cases h20 : s.toList = [117, 110, 105, 111, 110]
  · have hr : decide (s.toList ∈ wordsL) = true := by rw [h20]; decide
    rw [hr]
    have b20 : (s.toList == [117, 110, 105, 111, 110]) = true := by simp [h20]
    clear hr h20
    go_enter Tryz.func13, Tryz.ntmps13
    go_wp2_with fail
    go_returns
    exact ⟨rfl, Fresh.refl _⟩
  have b20 : (s.toList == [117, 110, 105, 111, 110]) = false := by simp [h20]
  have H20 := Lib.hid h20
  clear h20
  by_cases h21 : s.toList = [117, 110, 115, 105, 103, 110, 101, 100]
  · have hr : decide (s.toList ∈ wordsL) = true := by rw [h21]; decide
    rw [hr]
    have b21 : (s.toList == [117, 110, 115, 105, 103, 110, 101, 100]) = true := by simp [h21]
    clear hr h21
    go_enter Tryz.func13, Tryz.ntmps13
    go_wp2_with fail
    go_returns
    exact ⟨rfl, Fresh.refl _⟩
  have b21 : (s.toList == [117, 110, 115, 105, 103, 110, 101, 100]) = false := by simp [h21]
  have H21 := Lib.hid h21
  clear h21
  by_cases h22 : s.toList = [118, 111, 105, 100]
  · have hr : decide (s.toList ∈ wordsL) = true := by rw [h22]; decide
    rw [hr]
    have b22 : (s.toList == [118, 111, 105, 100]) = true := by simp [h22]
    clear hr h22
    go_enter Tryz.func13, Tryz.ntmps13
    go_wp2_with fail
    go_returns
    exact ⟨rfl, Fresh.refl _⟩
  have b22 : (s.toList == [118, 111, 105, 100]) = false := by simp [h22]
  have H22 := Lib.hid h22
  clear h22
  by_cases h23 : s.toList = [119, 104, 105, 108, 101]
  · have hr : decide (s.toList ∈ wordsL) = true := by rw [h23]; decide
    rw [hr]
    have b23 : (s.toList == [119, 104, 105, 108, 101]) = true := by simp [h23]
    clear hr h23
    go_enter Tryz.func13, Tryz.ntmps13
    go_wp2_with fail
    go_returns
    exact ⟨rfl, Fresh.refl _⟩
  have b23 : (s.toList == [119, 104, 105, 108, 101]) = false := by simp [h23]
  have H23 := Lib.hid h23
  clear h23
  have hr : decide (s.toList ∈ wordsL) = false := by simp [wordsL, H0.out, H1.out, H2.out, H3.out, H4.out, H5.out, H6.out, H7.out, H8.out, H9.out, H10.out, H11.out, H12.out, H13.out, H14.out, H15.out, H16.out, H17.out, H18.out, H19.out, H20.out, H21.out, H22.out, H23.out]
  rw [hr]
  clear hr
  go_enter Tryz.func13, Tryz.ntmps13
  go_wp2_with fail
  go_returns
  exact ⟨rfl, Fresh.refl _⟩
end Go.Proofs.YtcmfmfgedhfaeaaGreatDoor
