/- The suffix of a whole number, its value. -/
import Derived.Test.YtcmfmfgedhfaeaaGreatDoorLk
import Derived.Lib.IndexBytes
namespace Go.Proofs.YtcmfmfgedhfaeaaGreatDoor
set_option linter.unusedSimpArgs false
set_option linter.unusedVariables false
open Go.RowKit

theorem suf_low (s : ByteArray) (B : ByteArray) (R : Bool) (w : World) (hR : R = decide (B.toList ∈ ([[], [117], [108], [117, 108], [108, 117]] : List (List UInt8))))
    (hc : ∀ X, Calls Tryz.prog 95 #[.string s] X fun e w' => e = .returned (.string B) ∧ Fresh X w') :
    Calls Tryz.prog 68 #[.string s] w fun e w' => e = .returned (.bool R) ∧ Fresh w w' := by
  have D := Lib.hid hc
  clear hc
  by_cases h0 : B.toList = []
  · have hr : R = true := by rw [hR, h0]; decide
    subst hr
    clear hR
    have b0 : (B.toList == []) = true := by simp [h0]
    have b0y : B.toList.isEmpty = true := by simp [h0]
    clear h0
    go_enter Tryz.func68, Tryz.ntmps68
    go_wp2_with fail
    go_at_call 95; refine (D.out _).mono ?_; rintro e w1 ⟨rfl, f1⟩
    have F1 := Lib.hid f1
    clear f1
    go_wp2_with fail
    go_ret
    exact ⟨rfl, F1.out⟩
  have b0 : (B.toList == []) = false := by simpa using h0
  have b0y : B.toList.isEmpty = false := by simpa using h0
  have H0 := Lib.hid h0
  clear h0
  by_cases h1 : B.toList = [117]
  · have hr : R = true := by rw [hR, h1]; decide
    subst hr
    clear hR
    have b1 : (B.toList == [117]) = true := by simp [h1]
    clear h1
    go_enter Tryz.func68, Tryz.ntmps68
    go_wp2_with fail
    go_at_call 95; refine (D.out _).mono ?_; rintro e w1 ⟨rfl, f1⟩
    have F1 := Lib.hid f1
    clear f1
    go_wp2_with fail
    go_ret
    exact ⟨rfl, F1.out⟩
  have b1 : (B.toList == [117]) = false := by simp [h1]
  have H1 := Lib.hid h1
  clear h1
  by_cases h2 : B.toList = [108]
  · have hr : R = true := by rw [hR, h2]; decide
    subst hr
    clear hR
    have b2 : (B.toList == [108]) = true := by simp [h2]
    clear h2
    go_enter Tryz.func68, Tryz.ntmps68
    go_wp2_with fail
    go_at_call 95; refine (D.out _).mono ?_; rintro e w1 ⟨rfl, f1⟩
    have F1 := Lib.hid f1
    clear f1
    go_wp2_with fail
    go_ret
    exact ⟨rfl, F1.out⟩
  have b2 : (B.toList == [108]) = false := by simp [h2]
  have H2 := Lib.hid h2
  clear h2
  by_cases h3 : B.toList = [117, 108]
  · have hr : R = true := by rw [hR, h3]; decide
    subst hr
    clear hR
    have b3 : (B.toList == [117, 108]) = true := by simp [h3]
    clear h3
    go_enter Tryz.func68, Tryz.ntmps68
    go_wp2_with fail
    go_at_call 95; refine (D.out _).mono ?_; rintro e w1 ⟨rfl, f1⟩
    have F1 := Lib.hid f1
    clear f1
    go_wp2_with fail
    go_ret
    exact ⟨rfl, F1.out⟩
  have b3 : (B.toList == [117, 108]) = false := by simp [h3]
  have H3 := Lib.hid h3
  clear h3
  by_cases h4 : B.toList = [108, 117]
  · have hr : R = true := by rw [hR, h4]; decide
    subst hr
    clear hR
    have b4 : (B.toList == [108, 117]) = true := by simp [h4]
    clear h4
    go_enter Tryz.func68, Tryz.ntmps68
    go_wp2_with fail
    go_at_call 95; refine (D.out _).mono ?_; rintro e w1 ⟨rfl, f1⟩
    have F1 := Lib.hid f1
    clear f1
    go_wp2_with fail
    go_ret
    exact ⟨rfl, F1.out⟩
  have b4 : (B.toList == [108, 117]) = false := by simp [h4]
  have H4 := Lib.hid h4
  clear h4
  have hr : R = false := by rw [hR]; simp [H0.out, H1.out, H2.out, H3.out, H4.out]
  subst hr
  clear hR
  go_enter Tryz.func68, Tryz.ntmps68
  go_wp2_with fail
  go_at_call 95; refine (D.out _).mono ?_; rintro e w1 ⟨rfl, f1⟩
  have F1 := Lib.hid f1
  clear f1
  go_wp2_with fail
  go_ret
  exact ⟨rfl, F1.out⟩
theorem isSuffix_any (s : ByteArray) (hs : s.size ≤ 1048576) (ha : ∀ c ∈ s.data.toList, c.toNat < 128) (w : World) :
    Calls Tryz.prog 68 #[.string s] w fun e w' => e = .returned (.bool (sufOk s.data.toList)) ∧ Fresh w w' := by
  refine suf_low s ⟨(Lib.toLowerA s.data.toList).toArray⟩ _ w ?_ (fun X => (Tryz.strings_ToLower_ascii s X (by omega) (fun j b hj => ha b (List.mem_of_getElem? hj))).mono (by rintro e w' ⟨rfl, h⟩; exact ⟨rfl, ⟨h⟩⟩))
  unfold sufOk Lib.toLowerA
  rw [ByteArray.toList_eq]
theorem trim_parts (l : List UInt8) : ∃ n, n ≤ l.length ∧ Lib.trimRightS l ulC = l.take n ∧ (Lib.trimRightS l ulC).length = n ∧ ∀ c ∈ l.drop n, c.toNat < 128 := by
  have h : l = (l.reverse.dropWhile (ulC.contains ·)).reverse ++ (l.reverse.takeWhile (ulC.contains ·)).reverse := by
    rw [← List.reverse_append, List.takeWhile_append_dropWhile, List.reverse_reverse]
  refine ⟨(Lib.trimRightS l ulC).length, ?_, ?_, rfl, ?_⟩
  · have := congrArg List.length h
    simp only [List.length_append] at this
    unfold Lib.trimRightS
    omega
  · unfold Lib.trimRightS
    conv => rhs; arg 2; rw [h]
    simp
  · intro c hc
    have hd : l.drop (Lib.trimRightS l ulC).length = (l.reverse.takeWhile (ulC.contains ·)).reverse := by
      unfold Lib.trimRightS
      conv => lhs; arg 2; rw [h]
      simp
    rw [hd] at hc
    have hm := List.all_eq_true.1 (List.all_takeWhile (p := (ulC.contains ·)) (l := l.reverse)) c (List.mem_reverse.1 hc)
    have : c ∈ ulC := by simpa using hm
    simp [ulC] at this
    rcases this with rfl | rfl | rfl | rfl <;> decide
theorem trimR_any (s : ByteArray) (hs : s.size ≤ 1048576) (w : World) :
    Calls Tryz.prog 67 #[.string s, .string ⟨#[117, 85, 108, 76]⟩] w fun e w' => e = .returned (.string ⟨(Lib.trimRightS s.data.toList ulC).toArray⟩) ∧ Fresh w w' := by
  refine (Any.strings_TrimRight_ascii Tryz.lays162 (fun w => by kernel_rfl) (by kernel_rfl) s ⟨#[117, 85, 108, 76]⟩ w (by omega) (by decide) ?_).mono (by rintro e w' ⟨rfl, h⟩; exact ⟨rfl, ⟨h⟩⟩)
  intro j b hj
  have hm := List.mem_of_getElem? hj
  simp at hm
  rcases hm with rfl | rfl | rfl | rfl <;> decide
end Go.Proofs.YtcmfmfgedhfaeaaGreatDoor
