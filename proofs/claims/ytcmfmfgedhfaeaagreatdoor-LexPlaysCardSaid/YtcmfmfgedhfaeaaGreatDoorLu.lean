/- What stands between quotes: the one rune, the bytes. -/
import Derived.Test.YtcmfmfgedhfaeaaGreatDoorLt
namespace Go.Proofs.YtcmfmfgedhfaeaaGreatDoor
set_option linter.unusedSimpArgs false
set_option linter.unusedVariables false
open Go.RowKit

theorem escL_le (l : List UInt8) : (escL l).1 ≤ 255 ∧ (escL l).2 ≤ 3 ∧ (escL l).2 ≤ l.length := by
  cases l with
  | nil => simp [escL]
  | cons c r =>
    have hc := c.toNat_lt
    simp only [escL, List.length_cons]
    have hx : (escX r).1 ≤ 255 ∧ (escX r).2 ≤ 3 ∧ (escX r).2 ≤ r.length + 1 := by
      unfold escX
      split
      · simp
      · cases h : p16b (r.take 2) with
        | none => simp [escO]
        | some n => have := p16b_le _ _ h; simp only [escO]; omega
    repeat' split
    all_goals first | omega | (simp only; omega)
def OnlyR (o : Option Nat) (e : Ending) : Prop := (∀ n, o = some n → e = .returned (.tuple #[.int .i32 (n : Int), .bool true])) ∧ (o = none → ∃ r : Int, e = .returned (.tuple #[.int .i32 r, .bool false]))
theorem only_e1 (s D : ByteArray) (c n : Nat) (hc : (c : Int) ≤ 255) (hc0 : 0 ≤ (c : Int))
    (h71 : ∀ X, Calls Tryz.prog 71 #[.string s, .string ⟨#[92]⟩] X fun e w' => e = .returned (.tuple #[.string D, .bool true]) ∧ X = w')
    (h72 : ∀ X, Tabs X → Calls Tryz.prog 72 #[.string D] X fun e w' => e = .returned (escV (c, n)) ∧ Fresh X w') (hn : 0 < (n : Int)) (hb : ((n : Int) == (D.size : Int)) = true) (w : World) (hT : Tabs w) :
    Calls Tryz.prog 59 #[.string s] w fun e w' => e = .returned (.tuple #[.int .i32 c, .bool true]) ∧ Fresh w w' := by
  have A := Lib.hid h71
  have B := Lib.hid h72
  have HT := Lib.hid hT
  clear h71 h72 hT
  go_enter Tryz.func59, Tryz.ntmps59
  go_wp2_with fail
  go_at_call 71; refine (A.out _).mono ?_; rintro e w1 ⟨rfl, rfl⟩
  go_wp2_with fail
  go_at_call 72; refine (B.out _ HT.out).mono ?_; rintro e w2 ⟨rfl, f2⟩
  have F2 := Lib.hid f2
  clear f2
  unfold escV
  go_wp2_with fail
  go_ret2
  exact ⟨rfl, F2.out⟩
theorem only_e2 (s D : ByteArray) (c n : Nat) (hc : (c : Int) ≤ 255) (hc0 : 0 ≤ (c : Int))
    (h71 : ∀ X, Calls Tryz.prog 71 #[.string s, .string ⟨#[92]⟩] X fun e w' => e = .returned (.tuple #[.string D, .bool true]) ∧ X = w')
    (h72 : ∀ X, Tabs X → Calls Tryz.prog 72 #[.string D] X fun e w' => e = .returned (escV (c, n)) ∧ Fresh X w') (hn : 0 < (n : Int)) (hb : ((n : Int) == (D.size : Int)) = false) (w : World) (hT : Tabs w) :
    Calls Tryz.prog 59 #[.string s] w fun e w' => e = .returned (.tuple #[.int .i32 c, .bool false]) ∧ Fresh w w' := by
  have A := Lib.hid h71
  have B := Lib.hid h72
  have HT := Lib.hid hT
  clear h71 h72 hT
  go_enter Tryz.func59, Tryz.ntmps59
  go_wp2_with fail
  go_at_call 71; refine (A.out _).mono ?_; rintro e w1 ⟨rfl, rfl⟩
  go_wp2_with fail
  go_at_call 72; refine (B.out _ HT.out).mono ?_; rintro e w2 ⟨rfl, f2⟩
  have F2 := Lib.hid f2
  clear f2
  unfold escV
  go_wp2_with fail
  go_ret2
  exact ⟨rfl, F2.out⟩
theorem only_e3 (s D : ByteArray) (c n : Nat) (hc : (c : Int) ≤ 255) (hc0 : 0 ≤ (c : Int))
    (h71 : ∀ X, Calls Tryz.prog 71 #[.string s, .string ⟨#[92]⟩] X fun e w' => e = .returned (.tuple #[.string D, .bool true]) ∧ X = w')
    (h72 : ∀ X, Tabs X → Calls Tryz.prog 72 #[.string D] X fun e w' => e = .returned (escV (c, n)) ∧ Fresh X w') (hn : ¬ 0 < (n : Int)) (w : World) (hT : Tabs w) :
    Calls Tryz.prog 59 #[.string s] w fun e w' => e = .returned (.tuple #[.int .i32 c, .bool false]) ∧ Fresh w w' := by
  have A := Lib.hid h71
  have B := Lib.hid h72
  have HT := Lib.hid hT
  clear h71 h72 hT
  go_enter Tryz.func59, Tryz.ntmps59
  go_wp2_with fail
  go_at_call 71; refine (A.out _).mono ?_; rintro e w1 ⟨rfl, rfl⟩
  go_wp2_with fail
  go_at_call 72; refine (B.out _ HT.out).mono ?_; rintro e w2 ⟨rfl, f2⟩
  have F2 := Lib.hid f2
  clear f2
  unfold escV
  go_wp2_with fail
  go_ret2
  exact ⟨rfl, F2.out⟩
theorem only_r1 (s D : ByteArray) (c n : Nat)
    (h71 : ∀ X, Calls Tryz.prog 71 #[.string s, .string ⟨#[92]⟩] X fun e w' => e = .returned (.tuple #[.string D, .bool false]) ∧ X = w')
    (h72 : ∀ X, Tabs X → Calls Tryz.prog 73 #[.string s] X fun e w' => e = .returned (.tuple #[.int .i32 c, .int .i64 n]) ∧ Fresh X w') (hn : 0 < (n : Int)) (hb : ((n : Int) == (s.size : Int)) = true) (w : World) (hT : Tabs w) :
    Calls Tryz.prog 59 #[.string s] w fun e w' => e = .returned (.tuple #[.int .i32 c, .bool true]) ∧ Fresh w w' := by
  have A := Lib.hid h71
  have B := Lib.hid h72
  have HT := Lib.hid hT
  clear h71 h72 hT
  go_enter Tryz.func59, Tryz.ntmps59
  go_wp2_with fail
  go_at_call 71; refine (A.out _).mono ?_; rintro e w1 ⟨rfl, rfl⟩
  go_wp2_with fail
  go_at_call 73; refine (B.out _ HT.out).mono ?_; rintro e w2 ⟨rfl, f2⟩
  have F2 := Lib.hid f2
  clear f2
  skip
  go_wp2_with fail
  go_ret2
  exact ⟨rfl, F2.out⟩
theorem only_r2 (s D : ByteArray) (c n : Nat)
    (h71 : ∀ X, Calls Tryz.prog 71 #[.string s, .string ⟨#[92]⟩] X fun e w' => e = .returned (.tuple #[.string D, .bool false]) ∧ X = w')
    (h72 : ∀ X, Tabs X → Calls Tryz.prog 73 #[.string s] X fun e w' => e = .returned (.tuple #[.int .i32 c, .int .i64 n]) ∧ Fresh X w') (hn : 0 < (n : Int)) (hb : ((n : Int) == (s.size : Int)) = false) (w : World) (hT : Tabs w) :
    Calls Tryz.prog 59 #[.string s] w fun e w' => e = .returned (.tuple #[.int .i32 c, .bool false]) ∧ Fresh w w' := by
  have A := Lib.hid h71
  have B := Lib.hid h72
  have HT := Lib.hid hT
  clear h71 h72 hT
  go_enter Tryz.func59, Tryz.ntmps59
  go_wp2_with fail
  go_at_call 71; refine (A.out _).mono ?_; rintro e w1 ⟨rfl, rfl⟩
  go_wp2_with fail
  go_at_call 73; refine (B.out _ HT.out).mono ?_; rintro e w2 ⟨rfl, f2⟩
  have F2 := Lib.hid f2
  clear f2
  skip
  go_wp2_with fail
  go_ret2
  exact ⟨rfl, F2.out⟩
theorem only_r3 (s D : ByteArray) (c n : Nat)
    (h71 : ∀ X, Calls Tryz.prog 71 #[.string s, .string ⟨#[92]⟩] X fun e w' => e = .returned (.tuple #[.string D, .bool false]) ∧ X = w')
    (h72 : ∀ X, Tabs X → Calls Tryz.prog 73 #[.string s] X fun e w' => e = .returned (.tuple #[.int .i32 c, .int .i64 n]) ∧ Fresh X w') (hn : ¬ 0 < (n : Int)) (w : World) (hT : Tabs w) :
    Calls Tryz.prog 59 #[.string s] w fun e w' => e = .returned (.tuple #[.int .i32 c, .bool false]) ∧ Fresh w w' := by
  have A := Lib.hid h71
  have B := Lib.hid h72
  have HT := Lib.hid hT
  clear h71 h72 hT
  go_enter Tryz.func59, Tryz.ntmps59
  go_wp2_with fail
  go_at_call 71; refine (A.out _).mono ?_; rintro e w1 ⟨rfl, rfl⟩
  go_wp2_with fail
  go_at_call 73; refine (B.out _ HT.out).mono ?_; rintro e w2 ⟨rfl, f2⟩
  have F2 := Lib.hid f2
  clear f2
  skip
  go_wp2_with fail
  go_ret2
  exact ⟨rfl, F2.out⟩
theorem dec0 (s : ByteArray) (h : 0 < s.size) : Lib.decodeGo s = Lib.decodeL s.data.toList := by
  unfold Lib.decodeGo
  rw [if_neg (by omega)]
  have := Lib.decodeL_drop s 0
  simp only [List.drop_zero] at this
  exact this.symm
theorem only_any (s : ByteArray) (hs : s.size ≤ 1048576) (w : World) (hT : Tabs w) :
    Calls Tryz.prog 59 #[.string s] w fun e w' => OnlyR (onlyL s.data.toList) e ∧ Fresh w w' := by
  have yes : ∀ n, ∀ (e : Ending) (w' : World), (e = .returned (.tuple #[.int .i32 (n : Nat), .bool true]) ∧ Fresh w w') → OnlyR (some n) e ∧ Fresh w w' := by
    rintro n e w' ⟨h1, h2⟩
    exact ⟨⟨fun m hm => by simp at hm; subst hm; exact h1, fun h => by simp at h⟩, h2⟩
  have no : ∀ r : Int, ∀ (e : Ending) (w' : World), (e = .returned (.tuple #[.int .i32 r, .bool false]) ∧ Fresh w w') → OnlyR none e ∧ Fresh w w' := by
    rintro n e w' ⟨h1, h2⟩
    exact ⟨⟨fun m hm => by simp at hm, fun _ => ⟨_, h1⟩⟩, h2⟩
  have hsz := size_list s
  have h71 : ∀ X, Calls Tryz.prog 71 #[.string s, .string ⟨#[92]⟩] X fun e w' => e = .returned (.tuple #[.string ⟨(Lib.trimPrefix s.data.toList [92]).toArray⟩, .bool (Lib.hasPrefix s.data.toList [92])]) ∧ X = w' :=
    fun X => (Tryz.strings_CutPrefix s ⟨#[92]⟩ X).mono (fun e w' ⟨p, q⟩ => ⟨p, q.symm⟩)
  have hlt : (Lib.trimPrefix s.data.toList [92]).length ≤ s.data.toList.length := by
    unfold Lib.trimPrefix
    split
    · simp
    · exact Nat.le_refl _
  unfold onlyL
  by_cases c1 : Lib.hasPrefix s.data.toList [92] = true
  · rw [if_pos c1]
    rw [c1] at h71
    have h72 : ∀ X, Tabs X → Calls Tryz.prog 72 #[.string ⟨(Lib.trimPrefix s.data.toList [92]).toArray⟩] X fun e w' => e = .returned (escV ((escL (Lib.trimPrefix s.data.toList [92])).1, (escL (Lib.trimPrefix s.data.toList [92])).2)) ∧ Fresh X w' :=
      fun X hX => esc_any _ (by rw [mk_size]; omega) X hX
    have hc := (escL_le (Lib.trimPrefix s.data.toList [92])).1
    generalize escL (Lib.trimPrefix s.data.toList [92]) = p at *
    obtain ⟨c, n⟩ := p
    simp only at *
    have hc' : (c : Int) ≤ 255 := by omega
    have hc0 : 0 ≤ (c : Int) := by omega
    by_cases c2 : 0 < n
    · by_cases c3 : n = (Lib.trimPrefix s.data.toList [92]).length
      · rw [if_pos ⟨c2, c3⟩]
        exact (only_e1 s _ c n hc' hc0 h71 h72 (by omega) (by rw [mk_size, ← c3]; simp) w hT).mono (yes c)
      · rw [if_neg (fun h => c3 h.2)]
        exact (only_e2 s _ c n hc' hc0 h71 h72 (by omega) (by rw [mk_size]; simp only [beq_eq_false_iff_ne]; omega) w hT).mono (no c)
    · rw [if_neg (fun h => c2 h.1)]
      exact (only_e3 s _ c n hc' hc0 h71 h72 (by omega) w hT).mono (no c)
  · rw [if_neg c1]
    have c1f : Lib.hasPrefix s.data.toList [92] = false := by simpa using c1
    rw [c1f] at h71
    have h73 : ∀ X, Tabs X → Calls Tryz.prog 73 #[.string s] X fun e w' => e = .returned (.tuple #[.int .i32 (Lib.decodeGo s).1, .int .i64 (Lib.decodeGo s).2]) ∧ Fresh X w' :=
      fun X hX => (Tryz.utf8_DecodeRuneInString s X hX.u8).mono (fun e w' ⟨p, q⟩ => ⟨p, ⟨q⟩⟩)
    by_cases c2 : 0 < s.size
    · have hd := dec0 s c2
      have hpos : 1 ≤ (Lib.decodeL s.data.toList).2 := Lib.decodeL_width _
      rw [hd] at h73
      generalize Lib.decodeL s.data.toList = p at *
      obtain ⟨c, n⟩ := p
      simp only at *
      by_cases c3 : n = s.size
      · rw [if_pos ⟨by omega, by omega⟩]
        exact (only_r1 s _ c n h71 h73 (by omega) (by rw [← c3]; simp) w hT).mono (yes c)
      · rw [if_neg (fun h => c3 (by omega))]
        exact (only_r2 s _ c n h71 h73 (by omega) (by simp only [beq_eq_false_iff_ne]; omega) w hT).mono (no c)
    · rw [if_neg (fun h => c2 (by omega))]
      have hd : Lib.decodeGo s = (65533, 0) := by unfold Lib.decodeGo; rw [if_pos (by omega)]
      rw [hd] at h73
      exact (only_r3 s _ 65533 0 h71 h73 (by omega) w hT).mono (no _)
end Go.Proofs.YtcmfmfgedhfaeaaGreatDoor
