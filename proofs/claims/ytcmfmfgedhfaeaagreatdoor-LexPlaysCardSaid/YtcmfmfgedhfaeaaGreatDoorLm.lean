/- The value of a whole number. -/
import Derived.Test.YtcmfmfgedhfaeaaGreatDoorLl
import Derived.Deep.QuietTactic
import Derived.BigQuiet
namespace Go.Proofs.YtcmfmfgedhfaeaaGreatDoor
set_option linter.unusedSimpArgs false
set_option linter.unusedVariables false
open Go.RowKit

def optV (o : Option Nat) : Value := match o with
  | some n => .tuple #[.int .u64 n, .bool true]
  | none => .tuple #[.int .u64 0, .bool false]
theorem getD_at (D : ByteArray) (i : Nat) (h : i < D.size) : D.data.toList.getD i 0 = D[i] := by
  rw [size_list] at h
  rw [List.getD_eq_getElem?_getD, List.getElem?_eq_getElem h]
  rfl
theorem hp_len (l p : List UInt8) (h : Lib.hasPrefix l p = true) : p.length ≤ l.length := (List.isPrefixOf_iff_prefix.1 h).length_le
set_option maxRecDepth 100000 in
set_option maxHeartbeats 4000000 in
theorem whole_suf (s D : ByteArray) (r : Option Nat) (w : World) (hT : Tabs w) (hs : (s.size : Int) ≤ 1048576) (hD : (D.size : Int) ≤ (s.size : Int)) 
    (h67 : ∀ X, Calls Tryz.prog 67 #[.string s, .string ⟨#[117, 85, 108, 76]⟩] X fun e w' => e = .returned (.string D) ∧ Fresh X w')
    (h68 : ∀ X, Calls Tryz.prog 68 #[.string (s.extract D.size s.size)] X fun e w' => e = .returned (.bool false) ∧ Fresh X w')
 :
    Calls Tryz.prog 56 #[.string s] w fun e w' => e = .returned (optV none) ∧ Fresh w w' := by
  have HT := Lib.hid hT
  have A := Lib.hid h67
  have B := Lib.hid h68
  clear hT h67 h68
  go_enter Tryz.func56, Tryz.ntmps56
  go_wp2_with fail
  go_at_call 67; refine (A.out _).mono ?_; rintro e w1 ⟨rfl, f1⟩
  have F1 := Lib.hid f1
  clear f1
  go_wp2_with fail
  go_at_call 68; refine (B.out _).mono ?_; rintro e w2 ⟨rfl, f2⟩
  have F := Lib.hid (F1.out.trans f2)
  clear f2 F1
  go_wp2_with fail
  go_ret2
  exact ⟨rfl, F.out⟩
set_option maxRecDepth 100000 in
set_option maxHeartbeats 4000000 in
theorem whole_x (s D : ByteArray) (r : Option Nat) (w : World) (hT : Tabs w) (hs : (s.size : Int) ≤ 1048576) (hD : (D.size : Int) ≤ (s.size : Int)) (h2 : 2 ≤ (D.size : Int))
    (h67 : ∀ X, Calls Tryz.prog 67 #[.string s, .string ⟨#[117, 85, 108, 76]⟩] X fun e w' => e = .returned (.string D) ∧ Fresh X w')
    (h68 : ∀ X, Calls Tryz.prog 68 #[.string (s.extract D.size s.size)] X fun e w' => e = .returned (.bool true) ∧ Fresh X w')
    (h24a : ∀ X, Calls Tryz.prog 24 #[.string D, .string ⟨#[48, 120]⟩] X fun e w' => e = .returned (.bool true) ∧ X = w')
    (h24b : ∀ X, Calls Tryz.prog 24 #[.string D, .string ⟨#[48, 88]⟩] X fun e w' => e = .returned (.bool false) ∧ X = w')
    (h20 : ∀ X, Tabs X → Calls Tryz.prog 20 #[.string (D.extract 2 D.size), .int .i64 16, .int .i64 64] X fun e w' => PuOr r e ∧ Fresh X w') :
    Calls Tryz.prog 56 #[.string s] w fun e w' => e = .returned (optV r) ∧ Fresh w w' := by
  have HT := Lib.hid hT
  have A := Lib.hid h67
  have B := Lib.hid h68
  clear hT h67 h68
  have P1 := Lib.hid h24a
  have P2 := Lib.hid h24b
  have C := Lib.hid h20
  clear h24a h24b h20
  go_enter Tryz.func56, Tryz.ntmps56
  go_wp2_with fail
  go_at_call 67; refine (A.out _).mono ?_; rintro e w1 ⟨rfl, f1⟩
  have F1 := Lib.hid f1
  clear f1
  go_wp2_with fail
  go_at_call 68; refine (B.out _).mono ?_; rintro e w2 ⟨rfl, f2⟩
  have F := Lib.hid (F1.out.trans f2)
  clear f2 F1
  go_wp2_with fail
  go_at_call 24; refine (P1.out _).mono ?_; rintro e w3 ⟨rfl, rfl⟩
  go_wp2_with fail
  go_quiet (fail)
  go_wp2_with fail
  go_at_call 20; refine (C.out _ (HT.out.fresh (F.out.drewN _))).mono ?_; rintro e w9 ⟨⟨h1, h2⟩, f9⟩
  have F9 := Lib.hid ((F.out.drewN _).trans f9)
  have H1 := Lib.hid h1
  have H2 := Lib.hid h2
  clear h1 h2 f9
  cases r with
  | some m =>
    obtain rfl := H1.out m rfl
    clear H1 H2
    go_wp2_with fail
    go_ret2
    exact ⟨rfl, F9.out⟩
  | none =>
    obtain ⟨u, N, rfl⟩ := H2.out rfl
    clear H1 H2
    go_wp2_with fail
    go_ret2
    exact ⟨rfl, F9.out⟩
set_option maxRecDepth 100000 in
set_option maxHeartbeats 4000000 in
theorem whole_X (s D : ByteArray) (r : Option Nat) (w : World) (hT : Tabs w) (hs : (s.size : Int) ≤ 1048576) (hD : (D.size : Int) ≤ (s.size : Int)) (h2 : 2 ≤ (D.size : Int))
    (h67 : ∀ X, Calls Tryz.prog 67 #[.string s, .string ⟨#[117, 85, 108, 76]⟩] X fun e w' => e = .returned (.string D) ∧ Fresh X w')
    (h68 : ∀ X, Calls Tryz.prog 68 #[.string (s.extract D.size s.size)] X fun e w' => e = .returned (.bool true) ∧ Fresh X w')
    (h24a : ∀ X, Calls Tryz.prog 24 #[.string D, .string ⟨#[48, 120]⟩] X fun e w' => e = .returned (.bool false) ∧ X = w')
    (h24b : ∀ X, Calls Tryz.prog 24 #[.string D, .string ⟨#[48, 88]⟩] X fun e w' => e = .returned (.bool true) ∧ X = w')
    (h20 : ∀ X, Tabs X → Calls Tryz.prog 20 #[.string (D.extract 2 D.size), .int .i64 16, .int .i64 64] X fun e w' => PuOr r e ∧ Fresh X w') :
    Calls Tryz.prog 56 #[.string s] w fun e w' => e = .returned (optV r) ∧ Fresh w w' := by
  have HT := Lib.hid hT
  have A := Lib.hid h67
  have B := Lib.hid h68
  clear hT h67 h68
  have P1 := Lib.hid h24a
  have P2 := Lib.hid h24b
  have C := Lib.hid h20
  clear h24a h24b h20
  go_enter Tryz.func56, Tryz.ntmps56
  go_wp2_with fail
  go_at_call 67; refine (A.out _).mono ?_; rintro e w1 ⟨rfl, f1⟩
  have F1 := Lib.hid f1
  clear f1
  go_wp2_with fail
  go_at_call 68; refine (B.out _).mono ?_; rintro e w2 ⟨rfl, f2⟩
  have F := Lib.hid (F1.out.trans f2)
  clear f2 F1
  go_wp2_with fail
  go_at_call 24; refine (P1.out _).mono ?_; rintro e w3 ⟨rfl, rfl⟩
  go_wp2_with fail
  go_at_call 24; refine (P2.out _).mono ?_; rintro e w4 ⟨rfl, rfl⟩
  go_wp2_with fail
  go_quiet (fail)
  go_wp2_with fail
  go_at_call 20; refine (C.out _ (HT.out.fresh (F.out.drewN _))).mono ?_; rintro e w9 ⟨⟨h1, h2⟩, f9⟩
  have F9 := Lib.hid ((F.out.drewN _).trans f9)
  have H1 := Lib.hid h1
  have H2 := Lib.hid h2
  clear h1 h2 f9
  cases r with
  | some m =>
    obtain rfl := H1.out m rfl
    clear H1 H2
    go_wp2_with fail
    go_ret2
    exact ⟨rfl, F9.out⟩
  | none =>
    obtain ⟨u, N, rfl⟩ := H2.out rfl
    clear H1 H2
    go_wp2_with fail
    go_ret2
    exact ⟨rfl, F9.out⟩
set_option maxRecDepth 100000 in
set_option maxHeartbeats 4000000 in
theorem whole_8 (s D : ByteArray) (r : Option Nat) (w : World) (hT : Tabs w) (hs : (s.size : Int) ≤ 1048576) (hD : (D.size : Int) ≤ (s.size : Int)) (h1 : 1 < (D.size : Int)) (h0 : 0 < D.size) (hb : (((D[0]'h0).toNat : Int) == 48) = true)
    (h67 : ∀ X, Calls Tryz.prog 67 #[.string s, .string ⟨#[117, 85, 108, 76]⟩] X fun e w' => e = .returned (.string D) ∧ Fresh X w')
    (h68 : ∀ X, Calls Tryz.prog 68 #[.string (s.extract D.size s.size)] X fun e w' => e = .returned (.bool true) ∧ Fresh X w')
    (h24a : ∀ X, Calls Tryz.prog 24 #[.string D, .string ⟨#[48, 120]⟩] X fun e w' => e = .returned (.bool false) ∧ X = w')
    (h24b : ∀ X, Calls Tryz.prog 24 #[.string D, .string ⟨#[48, 88]⟩] X fun e w' => e = .returned (.bool false) ∧ X = w')
    (h20 : ∀ X, Tabs X → Calls Tryz.prog 20 #[.string (D.extract 1 D.size), .int .i64 8, .int .i64 64] X fun e w' => PuOr r e ∧ Fresh X w') :
    Calls Tryz.prog 56 #[.string s] w fun e w' => e = .returned (optV r) ∧ Fresh w w' := by
  have HT := Lib.hid hT
  have A := Lib.hid h67
  have B := Lib.hid h68
  clear hT h67 h68
  have P1 := Lib.hid h24a
  have P2 := Lib.hid h24b
  have C := Lib.hid h20
  clear h24a h24b h20
  go_enter Tryz.func56, Tryz.ntmps56
  go_wp2_with fail
  go_at_call 67; refine (A.out _).mono ?_; rintro e w1 ⟨rfl, f1⟩
  have F1 := Lib.hid f1
  clear f1
  go_wp2_with fail
  go_at_call 68; refine (B.out _).mono ?_; rintro e w2 ⟨rfl, f2⟩
  have F := Lib.hid (F1.out.trans f2)
  clear f2 F1
  go_wp2_with fail
  go_at_call 24; refine (P1.out _).mono ?_; rintro e w3 ⟨rfl, rfl⟩
  go_wp2_with fail
  go_at_call 24; refine (P2.out _).mono ?_; rintro e w4 ⟨rfl, rfl⟩
  go_wp2_with fail
  go_quiet (fail)
  go_wp2_with fail
  go_at_call 20; refine (C.out _ (HT.out.fresh (F.out.drewN _))).mono ?_; rintro e w9 ⟨⟨h1, h2⟩, f9⟩
  have F9 := Lib.hid ((F.out.drewN _).trans f9)
  have H1 := Lib.hid h1
  have H2 := Lib.hid h2
  clear h1 h2 f9
  cases r with
  | some m =>
    obtain rfl := H1.out m rfl
    clear H1 H2
    go_wp2_with fail
    go_ret2
    exact ⟨rfl, F9.out⟩
  | none =>
    obtain ⟨u, N, rfl⟩ := H2.out rfl
    clear H1 H2
    go_wp2_with fail
    go_ret2
    exact ⟨rfl, F9.out⟩
set_option maxRecDepth 100000 in
set_option maxHeartbeats 4000000 in
theorem whole_10 (s D : ByteArray) (r : Option Nat) (w : World) (hT : Tabs w) (hs : (s.size : Int) ≤ 1048576) (hD : (D.size : Int) ≤ (s.size : Int)) (h1 : ¬ 1 < (D.size : Int))
    (h67 : ∀ X, Calls Tryz.prog 67 #[.string s, .string ⟨#[117, 85, 108, 76]⟩] X fun e w' => e = .returned (.string D) ∧ Fresh X w')
    (h68 : ∀ X, Calls Tryz.prog 68 #[.string (s.extract D.size s.size)] X fun e w' => e = .returned (.bool true) ∧ Fresh X w')
    (h24a : ∀ X, Calls Tryz.prog 24 #[.string D, .string ⟨#[48, 120]⟩] X fun e w' => e = .returned (.bool false) ∧ X = w')
    (h24b : ∀ X, Calls Tryz.prog 24 #[.string D, .string ⟨#[48, 88]⟩] X fun e w' => e = .returned (.bool false) ∧ X = w')
    (h20 : ∀ X, Tabs X → Calls Tryz.prog 20 #[.string D, .int .i64 10, .int .i64 64] X fun e w' => PuOr r e ∧ Fresh X w') :
    Calls Tryz.prog 56 #[.string s] w fun e w' => e = .returned (optV r) ∧ Fresh w w' := by
  have HT := Lib.hid hT
  have A := Lib.hid h67
  have B := Lib.hid h68
  clear hT h67 h68
  have P1 := Lib.hid h24a
  have P2 := Lib.hid h24b
  have C := Lib.hid h20
  clear h24a h24b h20
  go_enter Tryz.func56, Tryz.ntmps56
  go_wp2_with fail
  go_at_call 67; refine (A.out _).mono ?_; rintro e w1 ⟨rfl, f1⟩
  have F1 := Lib.hid f1
  clear f1
  go_wp2_with fail
  go_at_call 68; refine (B.out _).mono ?_; rintro e w2 ⟨rfl, f2⟩
  have F := Lib.hid (F1.out.trans f2)
  clear f2 F1
  go_wp2_with fail
  go_at_call 24; refine (P1.out _).mono ?_; rintro e w3 ⟨rfl, rfl⟩
  go_wp2_with fail
  go_at_call 24; refine (P2.out _).mono ?_; rintro e w4 ⟨rfl, rfl⟩
  go_wp2_with fail
  go_at_call 20; refine (C.out _ (HT.out.fresh F.out)).mono ?_; rintro e w9 ⟨⟨h1, h2⟩, f9⟩
  have F9 := Lib.hid (F.out.trans f9)
  have H1 := Lib.hid h1
  have H2 := Lib.hid h2
  clear h1 h2 f9
  cases r with
  | some m =>
    obtain rfl := H1.out m rfl
    clear H1 H2
    go_wp2_with fail
    go_ret2
    exact ⟨rfl, F9.out⟩
  | none =>
    obtain ⟨u, N, rfl⟩ := H2.out rfl
    clear H1 H2
    go_wp2_with fail
    go_ret2
    exact ⟨rfl, F9.out⟩
set_option maxRecDepth 100000 in
set_option maxHeartbeats 4000000 in
theorem whole_10b (s D : ByteArray) (r : Option Nat) (w : World) (hT : Tabs w) (hs : (s.size : Int) ≤ 1048576) (hD : (D.size : Int) ≤ (s.size : Int)) (h1 : 1 < (D.size : Int)) (h0 : 0 < D.size) (hb : (((D[0]'h0).toNat : Int) == 48) = false)
    (h67 : ∀ X, Calls Tryz.prog 67 #[.string s, .string ⟨#[117, 85, 108, 76]⟩] X fun e w' => e = .returned (.string D) ∧ Fresh X w')
    (h68 : ∀ X, Calls Tryz.prog 68 #[.string (s.extract D.size s.size)] X fun e w' => e = .returned (.bool true) ∧ Fresh X w')
    (h24a : ∀ X, Calls Tryz.prog 24 #[.string D, .string ⟨#[48, 120]⟩] X fun e w' => e = .returned (.bool false) ∧ X = w')
    (h24b : ∀ X, Calls Tryz.prog 24 #[.string D, .string ⟨#[48, 88]⟩] X fun e w' => e = .returned (.bool false) ∧ X = w')
    (h20 : ∀ X, Tabs X → Calls Tryz.prog 20 #[.string D, .int .i64 10, .int .i64 64] X fun e w' => PuOr r e ∧ Fresh X w') :
    Calls Tryz.prog 56 #[.string s] w fun e w' => e = .returned (optV r) ∧ Fresh w w' := by
  have HT := Lib.hid hT
  have A := Lib.hid h67
  have B := Lib.hid h68
  clear hT h67 h68
  have P1 := Lib.hid h24a
  have P2 := Lib.hid h24b
  have C := Lib.hid h20
  clear h24a h24b h20
  go_enter Tryz.func56, Tryz.ntmps56
  go_wp2_with fail
  go_at_call 67; refine (A.out _).mono ?_; rintro e w1 ⟨rfl, f1⟩
  have F1 := Lib.hid f1
  clear f1
  go_wp2_with fail
  go_at_call 68; refine (B.out _).mono ?_; rintro e w2 ⟨rfl, f2⟩
  have F := Lib.hid (F1.out.trans f2)
  clear f2 F1
  go_wp2_with fail
  go_at_call 24; refine (P1.out _).mono ?_; rintro e w3 ⟨rfl, rfl⟩
  go_wp2_with fail
  go_at_call 24; refine (P2.out _).mono ?_; rintro e w4 ⟨rfl, rfl⟩
  go_wp2_with fail
  go_at_call 20; refine (C.out _ (HT.out.fresh F.out)).mono ?_; rintro e w9 ⟨⟨h1, h2⟩, f9⟩
  have F9 := Lib.hid (F.out.trans f9)
  have H1 := Lib.hid h1
  have H2 := Lib.hid h2
  clear h1 h2 f9
  cases r with
  | some m =>
    obtain rfl := H1.out m rfl
    clear H1 H2
    go_wp2_with fail
    go_ret2
    exact ⟨rfl, F9.out⟩
  | none =>
    obtain ⟨u, N, rfl⟩ := H2.out rfl
    clear H1 H2
    go_wp2_with fail
    go_ret2
    exact ⟨rfl, F9.out⟩
theorem whole_any (s : ByteArray) (hs : s.size ≤ 1048576) (w : World) (hT : Tabs w) :
    Calls Tryz.prog 56 #[.string s] w fun e w' => e = .returned (optV (wholeL s.data.toList)) ∧ Fresh w w' := by
  obtain ⟨n, hn, ht, hl, hc⟩ := trim_parts s.data.toList
  rw [← size_list] at hn
  obtain ⟨D, hD⟩ : ∃ D : ByteArray, D = ⟨(Lib.trimRightS s.data.toList ulC).toArray⟩ := ⟨_, rfl⟩
  have hDl : D.data.toList = Lib.trimRightS s.data.toList ulC := by rw [hD]
  have hDs : D.size = n := by rw [size_list, hDl, hl]
  have h67 := fun X => trimR_any s hs X
  rw [← hD] at h67
  have h68 := fun X => isSuffix_any (s.extract D.size s.size) (by simp [ByteArray.size_extract]; omega) (by rw [Lib.extract_to_end, hDs]; exact hc) X
  rw [Lib.extract_to_end, hDs] at h68
  have h24a := fun X => (Tryz.strings_HasPrefix D ⟨#[48, 120]⟩ X).mono (fun e w' ⟨p, q⟩ => (⟨p, q.symm⟩ : _ ∧ X = w'))
  have h24b := fun X => (Tryz.strings_HasPrefix D ⟨#[48, 88]⟩ X).mono (fun e w' ⟨p, q⟩ => (⟨p, q.symm⟩ : _ ∧ X = w'))
  have hsI : (s.size : Int) ≤ 1048576 := by omega
  have hDI : (D.size : Int) ≤ (s.size : Int) := by omega
  rw [hDl] at h24a h24b
  rw [← hDs] at h68
  have hl2 : ∀ k, (D.extract k D.size).size ≤ 281474976710656 := fun k => by simp [ByteArray.size_extract]; omega
  have e0 : ∀ k, (D.extract k D.size).data.toList = (Lib.trimRightS s.data.toList ulC).drop k := fun k => by rw [Lib.extract_to_end, hDl]
  unfold wholeL
  rw [hl, ← hDs]
  by_cases c1 : sufOk (s.data.toList.drop D.size) = false
  · rw [if_pos c1]
    rw [c1] at h68
    exact whole_suf s D none w hT hsI hDI h67 h68
  · rw [if_neg c1]
    have c1t : sufOk (s.data.toList.drop D.size) = true := by simpa using c1
    rw [c1t] at h68
    clear c1 c1t
    have g0 : ∀ h0 : 0 < D.size, (Lib.trimRightS s.data.toList ulC).getD 0 0 = D[0] := fun h0 => by rw [← hDl, getD_at _ _ h0]
    by_cases c2 : Lib.hasPrefix (Lib.trimRightS s.data.toList ulC) [48, 120] = true
    · rw [if_pos c2]
      have k2 := hp_len _ _ c2
      rw [hl, ← hDs] at k2
      rw [c2] at h24a
      by_cases c3 : Lib.hasPrefix (Lib.trimRightS s.data.toList ulC) [48, 88] = true
      · exfalso
        have k1 := List.isPrefixOf_iff_prefix.1 c2
        have k3 := List.isPrefixOf_iff_prefix.1 c3
        obtain ⟨x, hx⟩ := k1
        obtain ⟨y, hy⟩ := k3
        rw [← hx] at hy
        simp at hy
      · have c3f : Lib.hasPrefix (Lib.trimRightS s.data.toList ulC) [48, 88] = false := by simpa using c3
        rw [c3f] at h24b
        exact whole_x s D _ w hT hsI hDI (by simp at k2; omega) h67 h68 h24a h24b (fun X hX => by rw [← e0 2]; exact p16_any _ X hX (hl2 2))
    · rw [if_neg c2]
      have c2f : Lib.hasPrefix (Lib.trimRightS s.data.toList ulC) [48, 120] = false := by simpa using c2
      rw [c2f] at h24a
      by_cases c3 : Lib.hasPrefix (Lib.trimRightS s.data.toList ulC) [48, 88] = true
      · rw [if_pos c3]
        have k2 := hp_len _ _ c3
        rw [hl, ← hDs] at k2
        rw [c3] at h24b
        exact whole_X s D _ w hT hsI hDI (by simp at k2; omega) h67 h68 h24a h24b (fun X hX => by rw [← e0 2]; exact p16_any _ X hX (hl2 2))
      · rw [if_neg c3]
        have c3f : Lib.hasPrefix (Lib.trimRightS s.data.toList ulC) [48, 88] = false := by simpa using c3
        rw [c3f] at h24b
        by_cases c4 : 1 < D.size
        · have h0 : 0 < D.size := by omega
          have k4 : 1 < (D.size : Int) := by omega
          by_cases c5 : (Lib.trimRightS s.data.toList ulC).getD 0 0 = 48
          · rw [if_pos ⟨c4, c5⟩]
            have hb : (((D[0]'h0).toNat : Int) == 48) = true := by rw [← g0 h0, c5]; rfl
            exact whole_8 s D _ w hT hsI hDI k4 h0 hb h67 h68 h24a h24b (fun X hX => by rw [← e0 1]; exact p8_any _ X hX (hl2 1))
          · rw [if_neg (fun h => c5 h.2)]
            have hb : (((D[0]'h0).toNat : Int) == 48) = false := by
              rw [← g0 h0]
              simp only [beq_eq_false_iff_ne]
              intro h
              exact c5 (UInt8.toNat_inj.1 (by rw [show ((48 : UInt8).toNat) = 48 from rfl]; omega))
            exact whole_10b s D _ w hT hsI hDI k4 h0 hb h67 h68 h24a h24b (fun X hX => by rw [← hDl]; exact p10_any _ X hX (by omega))
        · rw [if_neg (fun h => c4 h.1)]
          exact whole_10 s D _ w hT hsI hDI (by omega) h67 h68 h24a h24b (fun X hX => by rw [← hDl]; exact p10_any _ X hX (by omega))
end Go.Proofs.YtcmfmfgedhfaeaaGreatDoor
