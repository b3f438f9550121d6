/- Escapes. -/
import Derived.Test.YtcmfmfgedhfaeaaGreatDoorLo
namespace Go.Proofs.YtcmfmfgedhfaeaaGreatDoor
set_option linter.unusedSimpArgs false
set_option linter.unusedVariables false
open Go.RowKit

def escV (p : Nat × Nat) : Value := .tuple #[.int .u8 p.1, .int .i64 p.2]
theorem escX_any (s : ByteArray) (hs : s.size ≤ 1048576) (w : World) (hT : Tabs w) :
    Calls Tryz.prog 98 #[.string s] w fun e w' => e = .returned (escV (escX s.data.toList)) ∧ Fresh w w' := by
  by_cases h : s.size < 2
  · have hr : escX s.data.toList = (0, 0) := by unfold escX; rw [if_pos (by rw [← size_list]; exact h)]
    rw [hr]
    have h' : (s.size : Int) < 2 := by omega
    clear hr h
    go_enter Tryz.func98, Tryz.ntmps98
    go_wp2_with fail
    go_ret2
    exact ⟨rfl, Fresh.refl _⟩
  · have hr : escX s.data.toList = escO (p16b (s.data.toList.take 2)) := by unfold escX; rw [if_neg (by rw [← size_list]; exact h)]
    rw [hr]
    have h' : ¬ (s.size : Int) < 2 := by omega
    have h2 : 2 ≤ (s.size : Int) := by omega
    have hx : (s.extract 0 2).data.toList = s.data.toList.take 2 := by rw [Lib.extract_data]; simp
    have C : Hid (∀ X, Tabs X → Calls Tryz.prog 20 #[.string (s.extract 0 2), .int .i64 16, .int .i64 8] X fun e w' => PuOr (p16b (s.data.toList.take 2)) e ∧ Fresh X w') := Lib.hid (fun X hX => by rw [← hx]; exact p16b_any _ X hX (by simp [ByteArray.size_extract]; omega))
    have HL := Lib.hid (p16b_le (s.data.toList.take 2))
    have HT := Lib.hid hT
    clear hr h hx hT
    generalize p16b (s.data.toList.take 2) = r at *
    cases r with
    | some m =>
      have m0 : 0 ≤ (m : Int) := by omega
      have m1 : (m : Int) ≤ 255 := by have := HL.out m rfl; omega
      clear HL
      go_enter Tryz.func98, Tryz.ntmps98
      go_wp2_with fail
      go_at_call 20; refine (C.out _ HT.out).mono ?_; rintro e w9 ⟨⟨k1, k2⟩, f9⟩
      have F9 := Lib.hid f9
      obtain rfl := k1 m rfl
      clear k1 k2 f9 C HT
      go_wp2_with fail
      go_ret2
      exact ⟨rfl, F9.out⟩
    | none =>
      clear HL
      go_enter Tryz.func98, Tryz.ntmps98
      go_wp2_with fail
      go_at_call 20; refine (C.out _ HT.out).mono ?_; rintro e w9 ⟨⟨k1, k2⟩, f9⟩
      have F9 := Lib.hid f9
      obtain ⟨u, N, rfl⟩ := k2 rfl
      clear k1 k2 f9 C HT
      go_wp2_with fail
      go_ret2
      exact ⟨rfl, F9.out⟩
theorem esc_nil (w : World) : Calls Tryz.prog 72 #[.string ⟨#[]⟩] w fun e w' => e = .returned (escV (0, 0)) ∧ Fresh w w' := by
  go_enter Tryz.func72, Tryz.ntmps72
  go_wp2_with fail
  go_ret2
  exact ⟨rfl, Fresh.refl _⟩
theorem esc_110 (s : ByteArray) (h0 : 0 < s.size) (h1 : 1 ≤ (s.size : Int)) (hem : s.toList.isEmpty = false) (hem2 : (s.toList == []) = false)  (b110 : (((s[0]'h0).toNat : Int) == 110) = true) (w : World) :
    Calls Tryz.prog 72 #[.string s] w fun e w' => e = .returned (escV (10, 1)) ∧ Fresh w w' := by
  go_enter Tryz.func72, Tryz.ntmps72
  go_wp2_with fail
  go_ret2
  exact ⟨rfl, Fresh.refl _⟩
theorem esc_116 (s : ByteArray) (h0 : 0 < s.size) (h1 : 1 ≤ (s.size : Int)) (hem : s.toList.isEmpty = false) (hem2 : (s.toList == []) = false) (b110 : (((s[0]'h0).toNat : Int) == 110) = false) (b116 : (((s[0]'h0).toNat : Int) == 116) = true) (w : World) :
    Calls Tryz.prog 72 #[.string s] w fun e w' => e = .returned (escV (9, 1)) ∧ Fresh w w' := by
  go_enter Tryz.func72, Tryz.ntmps72
  go_wp2_with fail
  go_ret2
  exact ⟨rfl, Fresh.refl _⟩
theorem esc_114 (s : ByteArray) (h0 : 0 < s.size) (h1 : 1 ≤ (s.size : Int)) (hem : s.toList.isEmpty = false) (hem2 : (s.toList == []) = false) (b110 : (((s[0]'h0).toNat : Int) == 110) = false) (b116 : (((s[0]'h0).toNat : Int) == 116) = false) (b114 : (((s[0]'h0).toNat : Int) == 114) = true) (w : World) :
    Calls Tryz.prog 72 #[.string s] w fun e w' => e = .returned (escV (13, 1)) ∧ Fresh w w' := by
  go_enter Tryz.func72, Tryz.ntmps72
  go_wp2_with fail
  go_ret2
  exact ⟨rfl, Fresh.refl _⟩
theorem esc_48 (s : ByteArray) (h0 : 0 < s.size) (h1 : 1 ≤ (s.size : Int)) (hem : s.toList.isEmpty = false) (hem2 : (s.toList == []) = false) (b110 : (((s[0]'h0).toNat : Int) == 110) = false) (b116 : (((s[0]'h0).toNat : Int) == 116) = false) (b114 : (((s[0]'h0).toNat : Int) == 114) = false) (b48 : (((s[0]'h0).toNat : Int) == 48) = true) (w : World) :
    Calls Tryz.prog 72 #[.string s] w fun e w' => e = .returned (escV (0, 1)) ∧ Fresh w w' := by
  go_enter Tryz.func72, Tryz.ntmps72
  go_wp2_with fail
  go_ret2
  exact ⟨rfl, Fresh.refl _⟩
theorem esc_92 (s : ByteArray) (h0 : 0 < s.size) (h1 : 1 ≤ (s.size : Int)) (hem : s.toList.isEmpty = false) (hem2 : (s.toList == []) = false) (b110 : (((s[0]'h0).toNat : Int) == 110) = false) (b116 : (((s[0]'h0).toNat : Int) == 116) = false) (b114 : (((s[0]'h0).toNat : Int) == 114) = false) (b48 : (((s[0]'h0).toNat : Int) == 48) = false) (b92 : (((s[0]'h0).toNat : Int) == 92) = true) (w : World) :
    Calls Tryz.prog 72 #[.string s] w fun e w' => e = .returned (escV ((s[0]'h0).toNat, 1)) ∧ Fresh w w' := by
  go_enter Tryz.func72, Tryz.ntmps72
  go_wp2_with fail
  go_ret2
  exact ⟨rfl, Fresh.refl _⟩
theorem esc_39 (s : ByteArray) (h0 : 0 < s.size) (h1 : 1 ≤ (s.size : Int)) (hem : s.toList.isEmpty = false) (hem2 : (s.toList == []) = false) (b110 : (((s[0]'h0).toNat : Int) == 110) = false) (b116 : (((s[0]'h0).toNat : Int) == 116) = false) (b114 : (((s[0]'h0).toNat : Int) == 114) = false) (b48 : (((s[0]'h0).toNat : Int) == 48) = false) (b92 : (((s[0]'h0).toNat : Int) == 92) = false) (b39 : (((s[0]'h0).toNat : Int) == 39) = true) (w : World) :
    Calls Tryz.prog 72 #[.string s] w fun e w' => e = .returned (escV ((s[0]'h0).toNat, 1)) ∧ Fresh w w' := by
  go_enter Tryz.func72, Tryz.ntmps72
  go_wp2_with fail
  go_ret2
  exact ⟨rfl, Fresh.refl _⟩
theorem esc_34 (s : ByteArray) (h0 : 0 < s.size) (h1 : 1 ≤ (s.size : Int)) (hem : s.toList.isEmpty = false) (hem2 : (s.toList == []) = false) (b110 : (((s[0]'h0).toNat : Int) == 110) = false) (b116 : (((s[0]'h0).toNat : Int) == 116) = false) (b114 : (((s[0]'h0).toNat : Int) == 114) = false) (b48 : (((s[0]'h0).toNat : Int) == 48) = false) (b92 : (((s[0]'h0).toNat : Int) == 92) = false) (b39 : (((s[0]'h0).toNat : Int) == 39) = false) (b34 : (((s[0]'h0).toNat : Int) == 34) = true) (w : World) :
    Calls Tryz.prog 72 #[.string s] w fun e w' => e = .returned (escV ((s[0]'h0).toNat, 1)) ∧ Fresh w w' := by
  go_enter Tryz.func72, Tryz.ntmps72
  go_wp2_with fail
  go_ret2
  exact ⟨rfl, Fresh.refl _⟩
theorem esc_120 (s : ByteArray) (h0 : 0 < s.size) (h1 : 1 ≤ (s.size : Int)) (hem : s.toList.isEmpty = false) (hem2 : (s.toList == []) = false) (b110 : (((s[0]'h0).toNat : Int) == 110) = false) (b116 : (((s[0]'h0).toNat : Int) == 116) = false) (b114 : (((s[0]'h0).toNat : Int) == 114) = false) (b48 : (((s[0]'h0).toNat : Int) == 48) = false) (b92 : (((s[0]'h0).toNat : Int) == 92) = false) (b39 : (((s[0]'h0).toNat : Int) == 39) = false) (b34 : (((s[0]'h0).toNat : Int) == 34) = false) (b120 : (((s[0]'h0).toNat : Int) == 120) = true) (p : Nat × Nat)
    (h98 : ∀ X, Tabs X → Calls Tryz.prog 98 #[.string (s.extract 1 s.size)] X fun e w' => e = .returned (escV p) ∧ Fresh X w') (w : World) (hT : Tabs w) :
    Calls Tryz.prog 72 #[.string s] w fun e w' => e = .returned (escV p) ∧ Fresh w w' := by
  have C := Lib.hid h98
  have HT := Lib.hid hT
  clear h98 hT
  go_enter Tryz.func72, Tryz.ntmps72
  go_wp2_with fail
  go_at_call 98; refine (C.out _ HT.out).mono ?_; rintro e w1 ⟨rfl, f1⟩
  have F1 := Lib.hid f1
  clear f1
  unfold escV
  go_wp2_with fail
  go_ret2
  exact ⟨rfl, F1.out⟩
theorem esc_no (s : ByteArray) (h0 : 0 < s.size) (h1 : 1 ≤ (s.size : Int)) (hem : s.toList.isEmpty = false) (hem2 : (s.toList == []) = false) (b110 : (((s[0]'h0).toNat : Int) == 110) = false) (b116 : (((s[0]'h0).toNat : Int) == 116) = false) (b114 : (((s[0]'h0).toNat : Int) == 114) = false) (b48 : (((s[0]'h0).toNat : Int) == 48) = false) (b92 : (((s[0]'h0).toNat : Int) == 92) = false) (b39 : (((s[0]'h0).toNat : Int) == 39) = false) (b34 : (((s[0]'h0).toNat : Int) == 34) = false) (b120 : (((s[0]'h0).toNat : Int) == 120) = false) (w : World) :
    Calls Tryz.prog 72 #[.string s] w fun e w' => e = .returned (escV (0, 0)) ∧ Fresh w w' := by
  go_enter Tryz.func72, Tryz.ntmps72
  go_wp2_with fail
  go_ret2
  exact ⟨rfl, Fresh.refl _⟩
theorem esc_any (s : ByteArray) (hs : s.size ≤ 1048576) (w : World) (hT : Tabs w) :
    Calls Tryz.prog 72 #[.string s] w fun e w' => e = .returned (escV (escL s.data.toList)) ∧ Fresh w w' := by
  by_cases hn : s.data.toList = []
  · rw [hn]
    obtain rfl := emp_of s hn
    exact esc_nil w
  · have h0 : 0 < s.size := by have := ne_of s hn; omega
    have h1 : 1 ≤ (s.size : Int) := by omega
    have hem : s.toList.isEmpty = false := by rw [ByteArray.toList_eq]; simpa using hn
    have hem2 : (s.toList == []) = false := by rw [ByteArray.toList_eq]; simpa using hn
    have hl : s.data.toList = s[0] :: s.data.toList.drop 1 := by
      have := drop_cons s.data.toList 0 (by rw [← size_list]; exact h0)
      rw [getD_at _ _ h0] at this
      simpa using this
    have h98 : ∀ X, Tabs X → Calls Tryz.prog 98 #[.string (s.extract 1 s.size)] X fun e w' => e = .returned (escV (escX (s.data.toList.drop 1))) ∧ Fresh X w' := fun X hX => by
      have := escX_any (s.extract 1 s.size) (by simp [ByteArray.size_extract]; omega) X hX
      rw [Lib.extract_to_end] at this
      exact this
    have he : escL s.data.toList = escL (s[0] :: s.data.toList.drop 1) := congrArg escL hl
    rw [he]
    clear he hl
    generalize s.data.toList.drop 1 = r at *
    have yes : ∀ k : Nat, (s[0]'h0).toNat = k → (((s[0]'h0).toNat : Int) == (k : Int)) = true := fun k hk => by simp [hk]
    have no : ∀ k : Nat, ¬ (s[0]'h0).toNat = k → (((s[0]'h0).toNat : Int) == (k : Int)) = false := fun k hk => by simp only [beq_eq_false_iff_ne]; omega
    simp only [escL]
    by_cases c110 : (s[0]'h0).toNat = 110
    · rw [if_pos c110]; exact esc_110 s h0 h1 hem hem2  (yes 110 c110) w
    rw [if_neg c110]
    by_cases c116 : (s[0]'h0).toNat = 116
    · rw [if_pos c116]; exact esc_116 s h0 h1 hem hem2 (no 110 c110) (yes 116 c116) w
    rw [if_neg c116]
    by_cases c114 : (s[0]'h0).toNat = 114
    · rw [if_pos c114]; exact esc_114 s h0 h1 hem hem2 (no 110 c110) (no 116 c116) (yes 114 c114) w
    rw [if_neg c114]
    by_cases c48 : (s[0]'h0).toNat = 48
    · rw [if_pos c48]; exact esc_48 s h0 h1 hem hem2 (no 110 c110) (no 116 c116) (no 114 c114) (yes 48 c48) w
    rw [if_neg c48]
    by_cases c92 : (s[0]'h0).toNat = 92
    · rw [if_pos c92]; exact esc_92 s h0 h1 hem hem2 (no 110 c110) (no 116 c116) (no 114 c114) (no 48 c48) (yes 92 c92) w
    rw [if_neg c92]
    by_cases c39 : (s[0]'h0).toNat = 39
    · rw [if_pos c39]; exact esc_39 s h0 h1 hem hem2 (no 110 c110) (no 116 c116) (no 114 c114) (no 48 c48) (no 92 c92) (yes 39 c39) w
    rw [if_neg c39]
    by_cases c34 : (s[0]'h0).toNat = 34
    · rw [if_pos c34]; exact esc_34 s h0 h1 hem hem2 (no 110 c110) (no 116 c116) (no 114 c114) (no 48 c48) (no 92 c92) (no 39 c39) (yes 34 c34) w
    rw [if_neg c34]
    by_cases c120 : (s[0]'h0).toNat = 120
    · rw [if_pos c120]; exact esc_120 s h0 h1 hem hem2 (no 110 c110) (no 116 c116) (no 114 c114) (no 48 c48) (no 92 c92) (no 39 c39) (no 34 c34) (yes 120 c120) _ h98 w hT
    rw [if_neg c120]
    exact esc_no s h0 h1 hem hem2 (no 110 c110) (no 116 c116) (no 114 c114) (no 48 c48) (no 92 c92) (no 39 c39) (no 34 c34) (no 120 c120) w
end Go.Proofs.YtcmfmfgedhfaeaaGreatDoor
