/- The numbers that an operation answers lie within its width. -/
import Derived.Test.YtopnbdblgfjnpaaS
namespace Go.Proofs.Ytopnbdblgfjnpaa
set_option linter.unusedSimpArgs false
set_option linter.unusedVariables false
open Go.RowKit

theorem flagL_range (b : Bool) : 0 ≤ flagL b ∧ flagL b < 2 := by cases b <;> simp [flagL]
theorem pow_pos' (k : Nat) : (0 : Int) < 2 ^ k := Int.pow_pos (by decide)
theorem div_range {x : Int} (k : Nat) (h : 0 ≤ x) : 0 ≤ x / 2 ^ k ∧ x / 2 ^ k ≤ x :=
  ⟨Int.ediv_nonneg h (Int.le_of_lt (pow_pos' k)), Int.ediv_le_self _ h⟩
theorem arith32_range (o x y : Int) (hx : 0 ≤ x) (hX : x < 4294967296) (hy : 0 ≤ y) (hY : y < 4294967296) : 0 ≤ arith32 o x y ∧ arith32 o x y < 4294967296 := by
  have a : (x.toNat &&& y.toNat) < 2 ^ 32 := Nat.and_lt_two_pow _ (by omega)
  have b : (x.toNat ||| y.toNat) < 2 ^ 32 := Nat.or_lt_two_pow (by omega) (by omega)
  have c : (x.toNat ^^^ y.toNat) < 2 ^ 32 := Nat.xor_lt_two_pow (by omega) (by omega)
  unfold arith32
  rw [u32_and x y hx hX hy hY, u32_or x y hx hX hy hY, u32_xor x y hx hX hy hY]
  repeat' split
  all_goals omega
theorem arith64_range (o x y : Int) (hx : 0 ≤ x) (hX : x < 18446744073709551616) (hy : 0 ≤ y) (hY : y < 18446744073709551616) : 0 ≤ arith64 o x y ∧ arith64 o x y < 18446744073709551616 := by
  have a : (x.toNat &&& y.toNat) < 2 ^ 64 := Nat.and_lt_two_pow _ (by omega)
  have b : (x.toNat ||| y.toNat) < 2 ^ 64 := Nat.or_lt_two_pow (by omega) (by omega)
  have c : (x.toNat ^^^ y.toNat) < 2 ^ 64 := Nat.xor_lt_two_pow (by omega) (by omega)
  unfold arith64
  rw [u64_and x y hx hX hy hY, u64_or x y hx hX hy hY, u64_xor x y hx hX hy hY]
  simp only [IntKind.wrap_u64]
  repeat' split
  all_goals omega
theorem divU32_range (c : Bool) (x y : Int) (hy : 0 ≤ y) (hY : y < 4294967296) : 0 ≤ (divU32 c x y).1 ∧ (divU32 c x y).1 < 4294967296 := by
  unfold divU32
  by_cases h : y = 0
  · simp [h]
  · have h1 := Int.emod_nonneg x h
    have h2 := Int.emod_lt_of_pos x (show 0 < y by omega)
    rw [if_neg (by simpa using h)]
    split
    · dsimp only; omega
    · dsimp only; omega
theorem divU64_range (c : Bool) (x y : Int) (hy : 0 ≤ y) (hY : y < 18446744073709551616) : 0 ≤ (divU64 c x y).1 ∧ (divU64 c x y).1 < 18446744073709551616 := by
  unfold divU64
  by_cases h : y = 0
  · simp [h]
  · have h1 := Int.emod_nonneg x h
    have h2 := Int.emod_lt_of_pos x (show 0 < y by omega)
    rw [if_neg (by simpa using h)]
    simp only [IntKind.wrap_u64]
    split
    · dsimp only; omega
    · dsimp only; omega
theorem shift32_range (o x y : Int) (hx : 0 ≤ x) (hX : x < 4294967296) : 0 ≤ (shiftT32 o x y).1 ∧ (shiftT32 o x y).1 < 4294967296 := by
  unfold shiftT32 shift32
  have := div_range y.toNat hx
  repeat' split
  all_goals (dsimp only; omega)
theorem shift64_range (o x y : Int) (hx : 0 ≤ x) (hX : x < 18446744073709551616) : 0 ≤ (shiftT64 o x y).1 ∧ (shiftT64 o x y).1 < 18446744073709551616 := by
  unfold shiftT64 shift64
  have := div_range y.toNat hx
  simp only [IntKind.wrap_u64]
  repeat' split
  all_goals (dsimp only; omega)
theorem whole32_range (o x y : Int) (hx : 0 ≤ x) (hX : x < 4294967296) (hy : 0 ≤ y) (hY : y < 4294967296) : 0 ≤ (whole32 o x y).1 ∧ (whole32 o x y).1 < 4294967296 := by
  have f1 := flagL_range (compareL (o - 22 + 18) x y)
  have f2 := flagL_range (compareL o (wrap32 x) (wrap32 y))
  have s := shift32_range o x y hx hX
  have d := divU32_range (o == 9) x y hy hY
  have a := arith32_range o x y hx hX hy hY
  unfold whole32
  repeat' split
  all_goals (first | assumption | (dsimp only; omega))
theorem whole64_range (o x y : Int) (hx : 0 ≤ x) (hX : x < 18446744073709551616) (hy : 0 ≤ y) (hY : y < 18446744073709551616) : 0 ≤ (whole64 o x y).1 ∧ (whole64 o x y).1 < 18446744073709551616 := by
  have f1 := flagL_range (compareL (o - 22 + 18) x y)
  have f2 := flagL_range (compareL o (wrap64 x) (wrap64 y))
  have s := shift64_range o x y hx hX
  have d := divU64_range (o == 9) x y hy hY
  have a := arith64_range o x y hx hX hy hY
  unfold whole64
  simp only [IntKind.wrap_u64]
  repeat' split
  all_goals (first | assumption | (dsimp only; omega))
end Go.Proofs.Ytopnbdblgfjnpaa
