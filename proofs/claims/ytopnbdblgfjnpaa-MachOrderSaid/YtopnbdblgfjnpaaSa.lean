/- Shifts: the pure part. -/
import Derived.Test.YtopnbdblgfjnpaaJ
import Derived.Lib.Hide
namespace Go.Proofs.Ytopnbdblgfjnpaa
set_option linter.unusedSimpArgs false
set_option linter.unusedVariables false
open Go.RowKit

theorem int_x (n : Int) (w : World) :
    Calls Try.prog 28 #[.int .i32 n] w fun e w' => e = .returned (.agg #[.int .i64 1, .int .u64 (n % 4294967296), .int .i64 0]) ∧ w.alloc (.cells #[.int .i64 1, .int .u64 (n % 4294967296), .int .i64 0] 24) = w' := by
  go_enter Try.func28, Try.ntmps28
  go_wp2
  go_returns
  exact ⟨rfl, rfl⟩
theorem u64_small {n : Int} (h0 : 0 ≤ n) (h1 : n < 4294967296) : IntKind.u64.wrap n = n := by
  simp [IntKind.wrap, IntKind.bits, IntKind.signed]; omega
theorem bits_low (o x y : Int) (hx : 0 ≤ x) (hX : x < 4294967296) (hy : 0 ≤ y) (hY : y < 4294967296) {r : Int} (h : whole32 o x y = (r, true)) (hr : 0 ≤ r) (hR : r < 4294967296) (hs : shapeL o = (1, 1, 1)) (b b' : Int) :
    eval2L o 1 x b 1 y b' = ((1, r, 0), true) := by
  have e1 : x % 4294967296 = x := Int.emod_eq_of_lt hx hX
  have e2 : y % 4294967296 = y := Int.emod_eq_of_lt hy hY
  simp [eval2L, bits2L, hs, answerL, e1, e2, h, u64_small hr hR]
theorem sh_up (X N : Int) (hX : 0 ≤ X) (hX' : X < 4294967296) (h0 : 0 ≤ N) (h1 : N < 31) : eval2L 13 1 X 0 1 N 0 = ((1, X * 2 ^ N.toNat % 4294967296, 0), true) := by
  refine bits_low 13 X N hX hX' h0 (by omega) ?_ (Int.emod_nonneg _ (by decide)) (Int.emod_lt_of_pos _ (by decide)) (by decide) 0 0
  have : N < 32 := by omega
  simp [whole32, isShiftL, shiftT32, shift32, this]
theorem sh_mul (X P : Int) (hX : 0 ≤ X) (hX' : X < 4294967296) (h0 : 0 ≤ P) (h1 : P < 4294967296) : eval2L 5 1 X 0 1 P 0 = ((1, X * P % 4294967296, 0), true) := by
  refine bits_low 5 X P hX hX' h0 (by omega) ?_ (Int.emod_nonneg _ (by decide)) (Int.emod_lt_of_pos _ (by decide)) (by decide) 0 0
  simp [whole32, isShiftL, arith32]
theorem pow_facts (N : Int) (h0 : 0 ≤ N) (h1 : N < 31) : (1 : Int) ≤ 2 ^ N.toNat ∧ (2 : Int) ^ N.toNat ≤ 1073741824 := by
  have h : N.toNat ≤ 30 := by omega
  have a : (2 : Nat) ^ N.toNat ≤ 2 ^ 30 := Nat.pow_le_pow_right (by decide) h
  have b : 0 < (2 : Nat) ^ N.toNat := Nat.two_pow_pos _
  have e : ((2 ^ N.toNat : Nat) : Int) = (2 : Int) ^ N.toNat := by simp
  rw [← e]
  omega
theorem div_range (X P : Int) (hX : 0 ≤ X) (hX' : X < 4294967296) (hP : 1 ≤ P) : 0 ≤ X / P ∧ X / P < 4294967296 :=
  ⟨Int.ediv_nonneg hX (by omega), by have := Int.ediv_le_self P hX; omega⟩
theorem sh_down (X N : Int) (hX : 0 ≤ X) (hX' : X < 4294967296) (h0 : 0 ≤ N) (h1 : N < 31) : eval2L 15 1 X 0 1 N 0 = ((1, X / 2 ^ N.toNat, 0), true) := by
  obtain ⟨p1, p2⟩ := pow_facts N h0 h1
  obtain ⟨d1, d2⟩ := div_range X (2 ^ N.toNat) hX hX' p1
  refine bits_low 15 X N hX hX' h0 (by omega) ?_ d1 d2 (by decide) 0 0
  have : N < 32 := by omega
  simp [whole32, isShiftL, shiftT32, shift32, this]
theorem sh_div (X P : Int) (hX : 0 ≤ X) (hX' : X < 4294967296) (h0 : 1 ≤ P) (h1 : P < 4294967296) : eval2L 7 1 X 0 1 P 0 = ((1, X / P, 0), true) := by
  obtain ⟨d1, d2⟩ := div_range X P hX hX' h0
  refine bits_low 7 X P hX hX' (by omega) (by omega) ?_ d1 d2 (by decide) 0 0
  have hp : P ≠ 0 := by omega
  have e : X.tdiv P = X / P := Int.tdiv_eq_ediv_of_nonneg hX
  have e2 : X / P % 4294967296 = X / P := Int.emod_eq_of_lt d1 d2
  simp [whole32, isShiftL, divU32, hp, e, e2]
theorem sh_shr (X N : Int) (hX : 0 ≤ X) (hX' : X < 4294967296) (h0 : 0 ≤ N) (h1 : N < 31) : eval2L 14 1 X 0 1 N 0 = ((1, wrap32 X / 2 ^ N.toNat % 4294967296, 0), true) := by
  refine bits_low 14 X N hX hX' h0 (by omega) ?_ (Int.emod_nonneg _ (by decide)) (Int.emod_lt_of_pos _ (by decide)) (by decide) 0 0
  have : N < 32 := by omega
  simp [whole32, isShiftL, shiftT32, shift32, this]
theorem sh_sub (X Y : Int) (hX : 0 ≤ X) (hX' : X < 4294967296) (h0 : 0 ≤ Y) (h1 : Y < 4294967296) : eval2L 4 1 X 0 1 Y 0 = ((1, (X - Y) % 4294967296, 0), true) := by
  refine bits_low 4 X Y hX hX' h0 (by omega) ?_ (Int.emod_nonneg _ (by decide)) (Int.emod_lt_of_pos _ (by decide)) (by decide) 0 0
  simp [whole32, isShiftL, arith32]
theorem rest_lt (X P : Int) (hX : 0 ≤ X) (hX' : X < 4294967296) (h1 : 1 ≤ P) (h2 : P ≤ 1073741824) : (X - wrap32 X / P % 4294967296 * P % 4294967296) % 4294967296 < P := by
  have hw : wrap32 X % 4294967296 = X % 4294967296 := by unfold wrap32; omega
  have e := Int.emod_add_mul_ediv (wrap32 X) P
  have r0 := Int.emod_nonneg (wrap32 X) (show P ≠ 0 by omega)
  have r1 := Int.emod_lt_of_pos (wrap32 X) (show 0 < P by omega)
  have k : (X - wrap32 X / P % 4294967296 * P % 4294967296) % 4294967296 = (wrap32 X - P * (wrap32 X / P)) % 4294967296 := by
    have k1 : wrap32 X / P % 4294967296 * P % 4294967296 = P * (wrap32 X / P) % 4294967296 := by
      rw [Int.mul_comm P, Int.mul_emod (wrap32 X / P % 4294967296), Int.emod_emod, ← Int.mul_emod]
    rw [k1]
    omega
  rw [k]
  generalize P * (wrap32 X / P) = q at *
  omega
theorem n_facts (a1 : Int) : 0 ≤ wrap64 ((IntKind.u64.wrap a1).tmod 31) ∧ wrap64 ((IntKind.u64.wrap a1).tmod 31) < 31 := by
  have h : 0 ≤ IntKind.u64.wrap a1 := by simp [IntKind.wrap, IntKind.bits, IntKind.signed]; omega
  rw [Int.tmod_eq_emod_of_nonneg h]
  unfold wrap64
  omega
end Go.Proofs.Ytopnbdblgfjnpaa
