/- Numbers with a point. -/
import Derived.Test.YtcmfmfgedhfaeaaGreatDoorLm
namespace Go.Proofs.YtcmfmfgedhfaeaaGreatDoor
set_option linter.unusedSimpArgs false
set_option linter.unusedVariables false
open Ieee Go.RowKit

theorem run_f64bits (x : Nat) (w : World) : (callFunc 21 #[.float .f64 x]).run Tryz.prog w = .ok (.value (.int .u64 x)) w := by
  rw [run_callFunc_standIn (fn := Tryz.f21) (e := Extern.MathFloatBits.float64bits) (by kernel_rfl) (by kernel_rfl) (by kernel_rfl) (by kernel_rfl) (by rfl)]
  rfl
attribute [local go_sem ↓] run_f64bits
/-- The bits of n / 10 ^ p. -/
def fq (n p : Nat) : Nat := (floatBits .quo .f64 (floatOfInt .f64 (n : Int)) (floatOfInt .f64 ((10 ^ p : Nat) : Int))).getD 0
theorem read_low (r : Nat) (h : r ≤ 9218868437227405312) : (∃ m e, double.read r = .number false m e) ∨ double.read r = .infinity false := by
  have w1 : double.signWeight = 9223372036854775808 := by decide
  have w2 : double.binade = 4503599627370496 := by decide
  have w3 : double.infRung = 9218868437227405312 := by decide
  have e1 : r / 9223372036854775808 % 2 = 0 := by omega
  have e2 : r % 9223372036854775808 = r := by omega
  unfold Format.read
  rw [w1, w2, w3, e1, e2]
  dsimp only
  by_cases a : r < 4503599627370496
  · rw [if_pos a]; exact Or.inl ⟨_, _, rfl⟩
  · rw [if_neg a]
    by_cases b : r < 9218868437227405312
    · rw [if_pos b]; exact Or.inl ⟨_, _, rfl⟩
    · rw [if_neg b, if_pos (by omega)]; exact Or.inr rfl
theorem word_false (x : Nat) : double.word false x = x := by unfold Format.word; exact if_neg (by decide)
theorem near_le (n : Nat) : double.nearest false n 0 ≤ 9218868437227405312 := by
  have w3 : double.infRung = 9218868437227405312 := by decide
  by_cases h : n = 0
  · have : double.nearest false n 0 = double.word false 0 := by unfold Format.nearest; rw [if_pos h]
    rw [this, word_false]
    exact Nat.zero_le _
  · have : ∃ K, double.nearest false n 0 = double.word false (min K double.infRung) := by unfold Format.nearest; rw [if_neg h]; exact ⟨_, rfl⟩
    obtain ⟨K, hK⟩ := this
    rw [hK, word_false, w3]
    exact Nat.min_le_right _ _
theorem int_near (n : Nat) : floatOfInt .f64 (n : Int) = double.nearest false n 0 := by
  have hf : FloatKind.f64.format = double := rfl
  have h0 : decide ((n : Int) < 0) = false := by simp
  unfold floatOfInt FloatKind.nearest FloatKind.encode Format.write
  rw [hf, Int.natAbs_natCast]
  simp only [h0]
theorem read_int (n : Nat) : (∃ m e, double.read (floatOfInt .f64 (n : Int)) = .number false m e) ∨ double.read (floatOfInt .f64 (n : Int)) = .infinity false := by
  rw [int_near]
  exact read_low _ (near_le n)
theorem read_ten : ∀ p : Fin 16, (match double.read (floatOfInt .f64 ((10 ^ p.val : Nat) : Int)) with | .number false m _ => decide (m ≠ 0) | _ => false) = true := by decide +kernel
theorem fq_some (n p : Nat) (hp : p ≤ 15) : floatBits .quo .f64 (floatOfInt .f64 (n : Int)) (floatOfInt .f64 ((10 ^ p : Nat) : Int)) = some (fq n p) := by
  have h : ∃ r, floatBits .quo .f64 (floatOfInt .f64 (n : Int)) (floatOfInt .f64 ((10 ^ p : Nat) : Int)) = some r := by
    have ht := read_ten ⟨p, by omega⟩
    simp only at ht
    unfold floatBits
    simp only
    show ∃ r, double.div _ _ = some r
    unfold Format.div
    cases hr : double.read (floatOfInt .f64 ((10 ^ p : Nat) : Int)) with
    | infinity s => rw [hr] at ht; simp at ht
    | nan s m => rw [hr] at ht; simp at ht
    | number s m e =>
      rw [hr] at ht
      have hm : m ≠ 0 := by
        cases s
        · simpa using ht
        · simp at ht
      rcases read_int n with ⟨m', e', h'⟩ | h'
      · rw [h']
        simp only [Datum.quotient, if_neg hm]
        exact ⟨_, rfl⟩
      · rw [h']
        exact ⟨_, rfl⟩
  obtain ⟨r, hr⟩ := h
  unfold fq
  rw [hr]
  rfl
theorem ten_le (k p : Nat) (h : k < p) (hp : p ≤ 15) : 10 ^ k ≤ 100000000000000 := by
  have : 10 ^ k ≤ 10 ^ 14 := Nat.pow_le_pow_right (by decide) (by omega)
  exact Nat.le_trans this (by decide)
theorem tenTo_any (p : Nat) (hp : p ≤ 15) (w : World) : Calls Tryz.prog 22 #[.int .i64 p] w fun e w' => e = .returned (.float .f64 (floatOfInt .f64 ((10 ^ p : Nat) : Int))) ∧ w' = w := by
  obtain ⟨R, hR⟩ : ∃ R : Int, R = ((10 ^ p : Nat) : Int) := ⟨_, rfl⟩
  rw [← hR]
  have HR := Lib.hid hR
  clear hR
  go_enter Tryz.func22, Tryz.ntmps22
  go_wp2
  go_loop [3, 5] (fun n i => ∃ (k : Nat) (a : Int), k ≤ p ∧ i = .int .i64 k ∧ n = .int .i64 a ∧ Hid (a = ((10 ^ k : Nat) : Int))) (fun _ i => p - (intOf i).toNat)
  case atStart => exact ⟨0, 1, Nat.zero_le _, rfl, rfl, Lib.hid rfl⟩
  case round =>
    obtain ⟨k, a, hk, rfl, rfl, HA⟩ := hrel
    by_cases hlt : k < p
    · have a0 : 0 ≤ a := by rw [HA.out]; exact Int.natCast_nonneg _
      have a1 : a ≤ 100000000000000 := by rw [HA.out]; exact Int.ofNat_le.2 (ten_le k p hlt hp)
      have HN : Hid (a * 10 = ((10 ^ (k + 1) : Nat) : Int)) := Lib.hid (by rw [HA.out, Nat.pow_succ]; push_cast; rfl)
      clear HA HR
      go_wp2
      go_round
      case rel => exact ⟨k + 1, a * 10, by omega, by go_num, rfl, HN⟩
      case measure => simp [intOf]; omega
    · obtain rfl : k = p := by omega
      obtain rfl : a = R := HA.out.trans HR.out.symm
      clear HA HR
      go_wp2
      go_ret
      exact ⟨rfl, rfl⟩
def floatL (l : List UInt8) (point : Nat) : Option Nat := if 15 < l.length ∨ 15 < point then none else (p10 l).map fun n => fq n point
theorem float_any (s : ByteArray) (p : Nat) (hs : s.size ≤ 1048576) (hp : p ≤ 1048576) (w : World) (hT : Tabs w) :
    Calls Tryz.prog 12 #[.string s, .int .i64 p] w fun e w' => e = .returned (optV (floatL s.data.toList p)) ∧ Fresh w w' := by
  have hss : s.size = s.data.toList.length := size_list s
  by_cases h1 : 15 < s.size
  · have hr : floatL s.data.toList p = none := by unfold floatL; rw [if_pos (Or.inl (by omega))]
    rw [hr]
    have h1' : 15 < (s.size : Int) := by omega
    clear hss hr
    go_enter Tryz.func12, Tryz.ntmps12
    go_wp2_with fail
    go_ret2
    exact ⟨rfl, Fresh.refl _⟩
  · by_cases h2 : 15 < p
    · have hr : floatL s.data.toList p = none := by unfold floatL; rw [if_pos (Or.inr h2)]
      rw [hr]
      have h1' : ¬ 15 < (s.size : Int) := by omega
      have h2' : 15 < (p : Int) := by omega
      clear hss hr
      go_enter Tryz.func12, Tryz.ntmps12
      go_wp2_with fail
      go_ret2
      exact ⟨rfl, Fresh.refl _⟩
    · have hr : floatL s.data.toList p = (p10 s.data.toList).map fun n => fq n p := by unfold floatL; rw [if_neg (by omega)]
      rw [hr]
      have h1' : ¬ 15 < (s.size : Int) := by omega
      have h2' : ¬ 15 < (p : Int) := by omega
      have C := Lib.hid (fun X hX => p10_any s X hX (by omega))
      have HT := Lib.hid hT
      have TT := Lib.hid (fun X => tenTo_any p (by omega) X)
      have HQ := Lib.hid (fun n => fq_some n p (by omega))
      generalize p10 s.data.toList = r at *
      clear hss hr hT
      cases r with
      | some m =>
        have hq := fun t X => run_float_arith (P := Tryz.prog) X .quo t .f64 _ _ _ (HQ.out m)
        have hv : optV (Option.map (fun n => fq n p) (some m)) = .tuple #[.int .u64 (fq m p), .bool true] := rfl
        rw [hv]
        clear hv
        generalize floatOfInt .f64 (((10 ^ p : Nat)) : Int) = T at *
        generalize fq m p = Q at *
        go_enter Tryz.func12, Tryz.ntmps12
        go_wp2_with fail
        go_at_call 20; refine (C.out _ HT.out).mono ?_; rintro e w9 ⟨⟨h1, h2⟩, f9⟩
        have F9 := Lib.hid f9
        obtain rfl := h1 m rfl
        clear h1 h2 f9 C HT
        go_wp2_with fail
        go_at_call 22; refine (TT.out _).mono ?_; rintro e w' ⟨rfl, rfl⟩
        go_wp2_with fail
        go_ret2
        exact ⟨rfl, F9.out⟩
      | none =>
        have hv : optV (Option.map (fun n => fq n p) none) = .tuple #[.int .u64 0, .bool false] := rfl
        rw [hv]
        clear hv
        go_enter Tryz.func12, Tryz.ntmps12
        go_wp2_with fail
        go_at_call 20; refine (C.out _ HT.out).mono ?_; rintro e w9 ⟨⟨h1, h2⟩, f9⟩
        have F9 := Lib.hid f9
        obtain ⟨u, N, rfl⟩ := h2 rfl
        clear h1 h2 f9 C HT
        go_wp2_with fail
        go_ret2
        exact ⟨rfl, F9.out⟩
end Go.Proofs.YtcmfmfgedhfaeaaGreatDoor
