/- Signs. -/
import Derived.Test.YtcmfmfgedhfaeaaGreatDoorLa
namespace Go.Proofs.YtcmfmfgedhfaeaaGreatDoor
set_option linter.unusedSimpArgs false
set_option linter.unusedVariables false
open Go.RowKit

def signsL : List (List UInt8) := [[60, 60, 61], [62, 62, 61], [43, 43], [45, 45], [45, 62], [60, 60], [62, 62], [60, 61], [62, 61], [61, 61], [33, 61], [38, 38], [124, 124], [43, 61], [45, 61], [42, 61], [47, 61], [37, 61], [38, 61], [124, 61], [94, 61], [43], [45], [42], [47], [37], [38], [124], [94], [126], [33], [60], [62], [61], [63], [58], [59], [44], [46], [40], [41], [91], [93], [123], [125]]
set_option maxRecDepth 100000 in
set_option maxHeartbeats 16000000 in
theorem sign_any (s : ByteArray) (w : World) : Calls Tryz.prog 14 #[.string s] w fun e w' => e = .returned (.bool (decide (s.toList ∈ signsL))) ∧ Fresh w w' := by
  by_cases h0 : s.toList = [60, 60, 61]
  · have hr : decide (s.toList ∈ signsL) = true := by rw [h0]; decide
    rw [hr]
    have b0 : (s.toList == [60, 60, 61]) = true := by simp [h0]
    clear hr h0
    go_enter Tryz.func14, Tryz.ntmps14
    go_wp2_with fail
    go_returns
    exact ⟨rfl, Fresh.refl _⟩
  have b0 : (s.toList == [60, 60, 61]) = false := by simp [h0]
  have H0 := Lib.hid h0
  clear h0
  by_cases h1 : s.toList = [62, 62, 61]
  · have hr : decide (s.toList ∈ signsL) = true := by rw [h1]; decide
    rw [hr]
    have b1 : (s.toList == [62, 62, 61]) = true := by simp [h1]
    clear hr h1
    go_enter Tryz.func14, Tryz.ntmps14
    go_wp2_with fail
    go_returns
    exact ⟨rfl, Fresh.refl _⟩
  have b1 : (s.toList == [62, 62, 61]) = false := by simp [h1]
  have H1 := Lib.hid h1
  clear h1
  by_cases h2 : s.toList = [43, 43]
  · have hr : decide (s.toList ∈ signsL) = true := by rw [h2]; decide
    rw [hr]
    have b2 : (s.toList == [43, 43]) = true := by simp [h2]
    clear hr h2
    go_enter Tryz.func14, Tryz.ntmps14
    go_wp2_with fail
    go_returns
    exact ⟨rfl, Fresh.refl _⟩
  have b2 : (s.toList == [43, 43]) = false := by simp [h2]
  have H2 := Lib.hid h2
  clear h2
  by_cases h3 : s.toList = [45, 45]
  · have hr : decide (s.toList ∈ signsL) = true := by rw [h3]; decide
    rw [hr]
    have b3 : (s.toList == [45, 45]) = true := by simp [h3]
    clear hr h3
    go_enter Tryz.func14, Tryz.ntmps14
    go_wp2_with fail
    go_returns
    exact ⟨rfl, Fresh.refl _⟩
  have b3 : (s.toList == [45, 45]) = false := by simp [h3]
  have H3 := Lib.hid h3
  clear h3
  by_cases h4 : s.toList = [45, 62]
  · have hr : decide (s.toList ∈ signsL) = true := by rw [h4]; decide
    rw [hr]
    have b4 : (s.toList == [45, 62]) = true := by simp [h4]
    clear hr h4
    go_enter Tryz.func14, Tryz.ntmps14
    go_wp2_with fail
    go_returns
    exact ⟨rfl, Fresh.refl _⟩
  have b4 : (s.toList == [45, 62]) = false := by simp [h4]
  have H4 := Lib.hid h4
  clear h4
  by_cases h5 : s.toList = [60, 60]
  · have hr : decide (s.toList ∈ signsL) = true := by rw [h5]; decide
    rw [hr]
    have b5 : (s.toList == [60, 60]) = true := by simp [h5]
    clear hr h5
    go_enter Tryz.func14, Tryz.ntmps14
    go_wp2_with fail
    go_returns
    exact ⟨rfl, Fresh.refl _⟩
  have b5 : (s.toList == [60, 60]) = false := by simp [h5]
  have H5 := Lib.hid h5
  clear h5
  by_cases h6 : s.toList = [62, 62]
  · have hr : decide (s.toList ∈ signsL) = true := by rw [h6]; decide
    rw [hr]
    have b6 : (s.toList == [62, 62]) = true := by simp [h6]
    clear hr h6
    go_enter Tryz.func14, Tryz.ntmps14
    go_wp2_with fail
    go_returns
    exact ⟨rfl, Fresh.refl _⟩
  have b6 : (s.toList == [62, 62]) = false := by simp [h6]
  have H6 := Lib.hid h6
  clear h6
  by_cases h7 : s.toList = [60, 61]
  · have hr : decide (s.toList ∈ signsL) = true := by rw [h7]; decide
    rw [hr]
    have b7 : (s.toList == [60, 61]) = true := by simp [h7]
    clear hr h7
    go_enter Tryz.func14, Tryz.ntmps14
    go_wp2_with fail
    go_returns
    exact ⟨rfl, Fresh.refl _⟩
  have b7 : (s.toList == [60, 61]) = false := by simp [h7]
  have H7 := Lib.hid h7
  clear h7
  by_cases h8 : s.toList = [62, 61]
  · have hr : decide (s.toList ∈ signsL) = true := by rw [h8]; decide
    rw [hr]
    have b8 : (s.toList == [62, 61]) = true := by simp [h8]
    clear hr h8
    go_enter Tryz.func14, Tryz.ntmps14
    go_wp2_with fail
    go_returns
    exact ⟨rfl, Fresh.refl _⟩
  have b8 : (s.toList == [62, 61]) = false := by simp [h8]
  have H8 := Lib.hid h8
  clear h8
  by_cases h9 : s.toList = [61, 61]
  · have hr : decide (s.toList ∈ signsL) = true := by rw [h9]; decide
    rw [hr]
    have b9 : (s.toList == [61, 61]) = true := by simp [h9]
    clear hr h9
    go_enter Tryz.func14, Tryz.ntmps14
    go_wp2_with fail
    go_returns
    exact ⟨rfl, Fresh.refl _⟩
  have b9 : (s.toList == [61, 61]) = false := by simp [h9]
  have H9 := Lib.hid h9
  clear h9
  by_cases h10 : s.toList = [33, 61]
  · have hr : decide (s.toList ∈ signsL) = true := by rw [h10]; decide
    rw [hr]
    have b10 : (s.toList == [33, 61]) = true := by simp [h10]
    clear hr h10
    go_enter Tryz.func14, Tryz.ntmps14
    go_wp2_with fail
    go_returns
    exact ⟨rfl, Fresh.refl _⟩
  have b10 : (s.toList == [33, 61]) = false := by simp [h10]
  have H10 := Lib.hid h10
  clear h10
  by_cases h11 : s.toList = [38, 38]
  · have hr : decide (s.toList ∈ signsL) = true := by rw [h11]; decide
    rw [hr]
    have b11 : (s.toList == [38, 38]) = true := by simp [h11]
    clear hr h11
    go_enter Tryz.func14, Tryz.ntmps14
    go_wp2_with fail
    go_returns
    exact ⟨rfl, Fresh.refl _⟩
  have b11 : (s.toList == [38, 38]) = false := by simp [h11]
  have H11 := Lib.hid h11
  clear h11
  by_cases h12 : s.toList = [124, 124]
  · have hr : decide (s.toList ∈ signsL) = true := by rw [h12]; decide
    rw [hr]
    have b12 : (s.toList == [124, 124]) = true := by simp [h12]
    clear hr h12
    go_enter Tryz.func14, Tryz.ntmps14
    go_wp2_with fail
    go_returns
    exact ⟨rfl, Fresh.refl _⟩
  have b12 : (s.toList == [124, 124]) = false := by simp [h12]
  have H12 := Lib.hid h12
  clear h12
  by_cases h13 : s.toList = [43, 61]
  · have hr : decide (s.toList ∈ signsL) = true := by rw [h13]; decide
    rw [hr]
    have b13 : (s.toList == [43, 61]) = true := by simp [h13]
    clear hr h13
    go_enter Tryz.func14, Tryz.ntmps14
    go_wp2_with fail
    go_returns
    exact ⟨rfl, Fresh.refl _⟩
  have b13 : (s.toList == [43, 61]) = false := by simp [h13]
  have H13 := Lib.hid h13
  clear h13
  by_cases h14 : s.toList = [45, 61]
  · have hr : decide (s.toList ∈ signsL) = true := by rw [h14]; decide
    rw [hr]
    have b14 : (s.toList == [45, 61]) = true := by simp [h14]
    clear hr h14
    go_enter Tryz.func14, Tryz.ntmps14
    go_wp2_with fail
    go_returns
    exact ⟨rfl, Fresh.refl _⟩
  have b14 : (s.toList == [45, 61]) = false := by simp [h14]
  have H14 := Lib.hid h14
  clear h14
  by_cases h15 : s.toList = [42, 61]
  · have hr : decide (s.toList ∈ signsL) = true := by rw [h15]; decide
    rw [hr]
    have b15 : (s.toList == [42, 61]) = true := by simp [h15]
    clear hr h15
    go_enter Tryz.func14, Tryz.ntmps14
    go_wp2_with fail
    go_returns
    exact ⟨rfl, Fresh.refl _⟩
  have b15 : (s.toList == [42, 61]) = false := by simp [h15]
  have H15 := Lib.hid h15
  clear h15
  by_cases h16 : s.toList = [47, 61]
  · have hr : decide (s.toList ∈ signsL) = true := by rw [h16]; decide
    rw [hr]
    have b16 : (s.toList == [47, 61]) = true := by simp [h16]
    clear hr h16
    go_enter Tryz.func14, Tryz.ntmps14
    go_wp2_with fail
    go_returns
    exact ⟨rfl, Fresh.refl _⟩
  have b16 : (s.toList == [47, 61]) = false := by simp [h16]
  have H16 := Lib.hid h16
  clear h16
  by_cases h17 : s.toList = [37, 61]
  · have hr : decide (s.toList ∈ signsL) = true := by rw [h17]; decide
    rw [hr]
    have b17 : (s.toList == [37, 61]) = true := by simp [h17]
    clear hr h17
    go_enter Tryz.func14, Tryz.ntmps14
    go_wp2_with fail
    go_returns
    exact ⟨rfl, Fresh.refl _⟩
  have b17 : (s.toList == [37, 61]) = false := by simp [h17]
  have H17 := Lib.hid h17
  clear h17
  by_cases h18 : s.toList = [38, 61]
  · have hr : decide (s.toList ∈ signsL) = true := by rw [h18]; decide
    rw [hr]
    have b18 : (s.toList == [38, 61]) = true := by simp [h18]
    clear hr h18
    go_enter Tryz.func14, Tryz.ntmps14
    go_wp2_with fail
    go_returns
    exact ⟨rfl, Fresh.refl _⟩
  have b18 : (s.toList == [38, 61]) = false := by simp [h18]
  have H18 := Lib.hid h18
  clear h18
  by_cases h19 : s.toList = [124, 61]
  · have hr : decide (s.toList ∈ signsL) = true := by rw [h19]; decide
    rw [hr]
    have b19 : (s.toList == [124, 61]) = true := by simp [h19]
    clear hr h19
    go_enter Tryz.func14, Tryz.ntmps14
    go_wp2_with fail
    go_returns
    exact ⟨rfl, Fresh.refl _⟩
  have b19 : (s.toList == [124, 61]) = false := by simp [h19]
  have H19 := Lib.hid h19
  clear h19
  by_cases h20 : s.toList = [94, 61]
  · have hr : decide (s.toList ∈ signsL) = true := by rw [h20]; decide
    rw [hr]
    have b20 : (s.toList == [94, 61]) = true := by simp [h20]
    clear hr h20
    go_enter Tryz.func14, Tryz.ntmps14
    go_wp2_with fail
    go_returns
    exact ⟨rfl, Fresh.refl _⟩
  have b20 : (s.toList == [94, 61]) = false := by simp [h20]
  have H20 := Lib.hid h20
  clear h20
  by_cases h21 : s.toList = [43]
  · have hr : decide (s.toList ∈ signsL) = true := by rw [h21]; decide
    rw [hr]
    have b21 : (s.toList == [43]) = true := by simp [h21]
    clear hr h21
    go_enter Tryz.func14, Tryz.ntmps14
    go_wp2_with fail
    go_returns
    exact ⟨rfl, Fresh.refl _⟩
  have b21 : (s.toList == [43]) = false := by simp [h21]
  have H21 := Lib.hid h21
  clear h21
  by_cases h22 : s.toList = [45]
  · have hr : decide (s.toList ∈ signsL) = true := by rw [h22]; decide
    rw [hr]
    have b22 : (s.toList == [45]) = true := by simp [h22]
    clear hr h22
    go_enter Tryz.func14, Tryz.ntmps14
    go_wp2_with fail
    go_returns
    exact ⟨rfl, Fresh.refl _⟩
  have b22 : (s.toList == [45]) = false := by simp [h22]
  have H22 := Lib.hid h22
  clear h22
  by_cases h23 : s.toList = [42]
  · have hr : decide (s.toList ∈ signsL) = true := by rw [h23]; decide
    rw [hr]
    have b23 : (s.toList == [42]) = true := by simp [h23]
    clear hr h23
    go_enter Tryz.func14, Tryz.ntmps14
    go_wp2_with fail
    go_returns
    exact ⟨rfl, Fresh.refl _⟩
  have b23 : (s.toList == [42]) = false := by simp [h23]
  have H23 := Lib.hid h23
  clear h23
  by_cases h24 : s.toList = [47]
  · have hr : decide (s.toList ∈ signsL) = true := by rw [h24]; decide
    rw [hr]
    have b24 : (s.toList == [47]) = true := by simp [h24]
    clear hr h24
    go_enter Tryz.func14, Tryz.ntmps14
    go_wp2_with fail
    go_returns
    exact ⟨rfl, Fresh.refl _⟩
  have b24 : (s.toList == [47]) = false := by simp [h24]
  have H24 := Lib.hid h24
  clear h24
  by_cases h25 : s.toList = [37]
  · have hr : decide (s.toList ∈ signsL) = true := by rw [h25]; decide
    rw [hr]
    have b25 : (s.toList == [37]) = true := by simp [h25]
    clear hr h25
    go_enter Tryz.func14, Tryz.ntmps14
    go_wp2_with fail
    go_returns
    exact ⟨rfl, Fresh.refl _⟩
  have b25 : (s.toList == [37]) = false := by simp [h25]
  have H25 := Lib.hid h25
  clear h25
  by_cases h26 : s.toList = [38]
  · have hr : decide (s.toList ∈ signsL) = true := by rw [h26]; decide
    rw [hr]
    have b26 : (s.toList == [38]) = true := by simp [h26]
    clear hr h26
    go_enter Tryz.func14, Tryz.ntmps14
    go_wp2_with fail
    go_returns
    exact ⟨rfl, Fresh.refl _⟩
  have b26 : (s.toList == [38]) = false := by simp [h26]
  have H26 := Lib.hid h26
  clear h26
  by_cases h27 : s.toList = [124]
  · have hr : decide (s.toList ∈ signsL) = true := by rw [h27]; decide
    rw [hr]
    have b27 : (s.toList == [124]) = true := by simp [h27]
    clear hr h27
    go_enter Tryz.func14, Tryz.ntmps14
    go_wp2_with fail
    go_returns
    exact ⟨rfl, Fresh.refl _⟩
  have b27 : (s.toList == [124]) = false := by simp [h27]
  have H27 := Lib.hid h27
  clear h27
  by_cases h28 : s.toList = [94]
  · have hr : decide (s.toList ∈ signsL) = true := by rw [h28]; decide
    rw [hr]
    have b28 : (s.toList == [94]) = true := by simp [h28]
    clear hr h28
    go_enter Tryz.func14, Tryz.ntmps14
    go_wp2_with fail
    go_returns
    exact ⟨rfl, Fresh.refl _⟩
  have b28 : (s.toList == [94]) = false := by simp [h28]
  have H28 := Lib.hid h28
  clear h28
  by_cases h29 : s.toList = [126]
  · have hr : decide (s.toList ∈ signsL) = true := by rw [h29]; decide
    rw [hr]
    have b29 : (s.toList == [126]) = true := by simp [h29]
    clear hr h29
    go_enter Tryz.func14, Tryz.ntmps14
    go_wp2_with fail
    go_returns
    exact ⟨rfl, Fresh.refl _⟩
  have b29 : (s.toList == [126]) = false := by simp [h29]
  have H29 := Lib.hid h29
  clear h29
  by_cases h30 : s.toList = [33]
  · have hr : decide (s.toList ∈ signsL) = true := by rw [h30]; decide
    rw [hr]
    have b30 : (s.toList == [33]) = true := by simp [h30]
    clear hr h30
    go_enter Tryz.func14, Tryz.ntmps14
    go_wp2_with fail
    go_returns
    exact ⟨rfl, Fresh.refl _⟩
  have b30 : (s.toList == [33]) = false := by simp [h30]
  have H30 := Lib.hid h30
  clear h30
  by_cases h31 : s.toList = [60]
  · have hr : decide (s.toList ∈ signsL) = true := by rw [h31]; decide
    rw [hr]
    have b31 : (s.toList == [60]) = true := by simp [h31]
    clear hr h31
    go_enter Tryz.func14, Tryz.ntmps14
    go_wp2_with fail
    go_returns
    exact ⟨rfl, Fresh.refl _⟩
  have b31 : (s.toList == [60]) = false := by simp [h31]
  have H31 := Lib.hid h31
  clear h31
  by_cases h32 : s.toList = [62]
  · have hr : decide (s.toList ∈ signsL) = true := by rw [h32]; decide
    rw [hr]
    have b32 : (s.toList == [62]) = true := by simp [h32]
    clear hr h32
    go_enter Tryz.func14, Tryz.ntmps14
    go_wp2_with fail
    go_returns
    exact ⟨rfl, Fresh.refl _⟩
  have b32 : (s.toList == [62]) = false := by simp [h32]
  have H32 := Lib.hid h32
  clear h32
  by_cases h33 : s.toList = [61]
  · have hr : decide (s.toList ∈ signsL) = true := by rw [h33]; decide
    rw [hr]
    have b33 : (s.toList == [61]) = true := by simp [h33]
    clear hr h33
    go_enter Tryz.func14, Tryz.ntmps14
    go_wp2_with fail
    go_returns
    exact ⟨rfl, Fresh.refl _⟩
  have b33 : (s.toList == [61]) = false := by simp [h33]
  have H33 := Lib.hid h33
  clear h33
  by_cases h34 : s.toList = [63]
  · have hr : decide (s.toList ∈ signsL) = true := by rw [h34]; decide
    rw [hr]
    have b34 : (s.toList == [63]) = true := by simp [h34]
    clear hr h34
    go_enter Tryz.func14, Tryz.ntmps14
    go_wp2_with fail
    go_returns
    exact ⟨rfl, Fresh.refl _⟩
  have b34 : (s.toList == [63]) = false := by simp [h34]
  have H34 := Lib.hid h34
  clear h34
  by_cases h35 : s.toList = [58]
  · have hr : decide (s.toList ∈ signsL) = true := by rw [h35]; decide
    rw [hr]
    have b35 : (s.toList == [58]) = true := by simp [h35]
    clear hr h35
    go_enter Tryz.func14, Tryz.ntmps14
    go_wp2_with fail
    go_returns
    exact ⟨rfl, Fresh.refl _⟩
  have b35 : (s.toList == [58]) = false := by simp [h35]
  have H35 := Lib.hid h35
  clear h35
  by_cases h36 : s.toList = [59]
  · have hr : decide (s.toList ∈ signsL) = true := by rw [h36]; decide
    rw [hr]
    have b36 : (s.toList == [59]) = true := by simp [h36]
    clear hr h36
    go_enter Tryz.func14, Tryz.ntmps14
    go_wp2_with fail
    go_returns
    exact ⟨rfl, Fresh.refl _⟩
  have b36 : (s.toList == [59]) = false := by simp [h36]
  have H36 := Lib.hid h36
  clear h36
  by_cases h37 : s.toList = [44]
  · have hr : decide (s.toList ∈ signsL) = true := by rw [h37]; decide
    rw [hr]
    have b37 : (s.toList == [44]) = true := by simp [h37]
    clear hr h37
    go_enter Tryz.func14, Tryz.ntmps14
    go_wp2_with fail
    go_returns
    exact ⟨rfl, Fresh.refl _⟩
  have b37 : (s.toList == [44]) = false := by simp [h37]
  have H37 := Lib.hid h37
  clear h37
  by_cases h38 : s.toList = [46]
  · have hr : decide (s.toList ∈ signsL) = true := by rw [h38]; decide
    rw [hr]
    have b38 : (s.toList == [46]) = true := by simp [h38]
    clear hr h38
    go_enter Tryz.func14, Tryz.ntmps14
    go_wp2_with fail
    go_returns
    exact ⟨rfl, Fresh.refl _⟩
  have b38 : (s.toList == [46]) = false := by simp [h38]
  have H38 := Lib.hid h38
  clear h38
  by_cases h39 : s.toList = [40]
  · have hr : decide (s.toList ∈ signsL) = true := by rw [h39]; decide
    rw [hr]
    have b39 : (s.toList == [40]) = true := by simp [h39]
    clear hr h39
    go_enter Tryz.func14, Tryz.ntmps14
    go_wp2_with fail
    go_returns
    exact ⟨rfl, Fresh.refl _⟩
  have b39 : (s.toList == [40]) = false := by simp [h39]
  have H39 := Lib.hid h39
  clear h39
  by_cases h40 : s.toList = [41]
  · have hr : decide (s.toList ∈ signsL) = true := by rw [h40]; decide
    rw [hr]
    have b40 : (s.toList == [41]) = true := by simp [h40]
    clear hr h40
    go_enter Tryz.func14, Tryz.ntmps14
    go_wp2_with fail
    go_returns
    exact ⟨rfl, Fresh.refl _⟩
  have b40 : (s.toList == [41]) = false := by simp [h40]
  have H40 := Lib.hid h40
  clear h40
  by_cases h41 : s.toList = [91]
  · have hr : decide (s.toList ∈ signsL) = true := by rw [h41]; decide
    rw [hr]
    have b41 : (s.toList == [91]) = true := by simp [h41]
    clear hr h41
    go_enter Tryz.func14, Tryz.ntmps14
    go_wp2_with fail
    go_returns
    exact ⟨rfl, Fresh.refl _⟩
  have b41 : (s.toList == [91]) = false := by simp [h41]
  have H41 := Lib.hid h41
  clear h41
  by_cases h42 : s.toList = [93]
  · have hr : decide (s.toList ∈ signsL) = true := by rw [h42]; decide
    rw [hr]
    have b42 : (s.toList == [93]) = true := by simp [h42]
    clear hr h42
    go_enter Tryz.func14, Tryz.ntmps14
    go_wp2_with fail
    go_returns
    exact ⟨rfl, Fresh.refl _⟩
  have b42 : (s.toList == [93]) = false := by simp [h42]
  have H42 := Lib.hid h42
  clear h42
  by_cases h43 : s.toList = [123]
  · have hr : decide (s.toList ∈ signsL) = true := by rw [h43]; decide
    rw [hr]
    have b43 : (s.toList == [123]) = true := by simp [h43]
    clear hr h43
    go_enter Tryz.func14, Tryz.ntmps14
    go_wp2_with fail
    go_returns
    exact ⟨rfl, Fresh.refl _⟩
  have b43 : (s.toList == [123]) = false := by simp [h43]
  have H43 := Lib.hid h43
  clear h43
  by_cases h44 : s.toList = [125]
  · have hr : decide (s.toList ∈ signsL) = true := by rw [h44]; decide
    rw [hr]
    have b44 : (s.toList == [125]) = true := by simp [h44]
    clear hr h44
    go_enter Tryz.func14, Tryz.ntmps14
    go_wp2_with fail
    go_returns
    exact ⟨rfl, Fresh.refl _⟩
  have b44 : (s.toList == [125]) = false := by simp [h44]
  have H44 := Lib.hid h44
  clear h44
  have hr : decide (s.toList ∈ signsL) = false := by simp [signsL, H0.out, H1.out, H2.out, H3.out, H4.out, H5.out, H6.out, H7.out, H8.out, H9.out, H10.out, H11.out, H12.out, H13.out, H14.out, H15.out, H16.out, H17.out, H18.out, H19.out, H20.out, H21.out, H22.out, H23.out, H24.out, H25.out, H26.out, H27.out, H28.out, H29.out, H30.out, H31.out, H32.out, H33.out, H34.out, H35.out, H36.out, H37.out, H38.out, H39.out, H40.out, H41.out, H42.out, H43.out, H44.out]
  rw [hr]
  clear hr
  go_enter Tryz.func14, Tryz.ntmps14
  go_wp2_with fail
  go_returns
  exact ⟨rfl, Fresh.refl _⟩
end Go.Proofs.YtcmfmfgedhfaeaaGreatDoor
