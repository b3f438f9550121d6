/- A number's bytes make the number again. -/
import Derived.Test.YtjbflmpnmobngaaMr
namespace Go.Proofs.Ytjbflmpnmobngaa
set_option linter.unusedSimpArgs false
set_option linter.unusedVariables false
open Go.RowKit

theorem or_step (X n : Nat) : (X % 2 ^ n) ||| (X / 2 ^ n % 256 * 2 ^ n) = X % 2 ^ (n + 8) := by
  have h : X % 2 ^ n < 2 ^ n := Nat.mod_lt _ (Nat.two_pow_pos n)
  have e1 : X / 2 ^ n % 256 * 2 ^ n + X % 2 ^ n = X % 2 ^ (n + 8) := by
    rw [Nat.pow_add, Nat.mod_mul]
    rw [Nat.add_comm, Nat.mul_comm]
  rw [← e1, Nat.or_comm, Nat.mul_comm, Nat.two_pow_add_eq_or_of_lt h]
theorem byte_mod (X k : Nat) : byteN (X : Int) k % 256 = ((X / 2 ^ (8 * k) % 256 : Nat) : Int) := by
  unfold byteN
  have e : ((X / 2 ^ (8 * k) : Nat) : Int) = (X : Int) / 2 ^ (8 * k) := by simp
  rw [← e]
  omega
theorem accN_put (X : Nat) (hX : X < 18446744073709551616) (g : Nat → Int) (a : Nat) : ∀ m : Nat, m ≤ 8 → (∀ i, i < m → g (a + i) = byteN (X : Int) i) → accN g a m = ((X % 2 ^ (8 * m) : Nat) : Int)
  | 0, _, _ => by simp [accN, Nat.mod_one]
  | k + 1, hm, hg => by
    unfold accN
    rw [accN_put X hX g a k (by omega) (fun i hi => hg i (by omega)), hg k (by omega), byte_mod]
    have hp : 2 ^ (8 * k) ≤ 2 ^ 56 := Nat.pow_le_pow_right (by decide) (by omega)
    have hb : X / 2 ^ (8 * k) % 256 < 256 := Nat.mod_lt _ (by decide)
    have hq : X / 2 ^ (8 * k) % 256 * 2 ^ (8 * k) ≤ 255 * 2 ^ 56 := Nat.mul_le_mul (by omega) hp
    have hlt : X % 2 ^ (8 * k) < 2 ^ (8 * k) := Nat.mod_lt _ (Nat.two_pow_pos _)
    have e1 : (((X / 2 ^ (8 * k) % 256 : Nat) : Int) * 2 ^ (8 * k)) = ((X / 2 ^ (8 * k) % 256 * 2 ^ (8 * k) : Nat) : Int) := by simp
    have e2 : IntKind.u64.wrap (((X / 2 ^ (8 * k) % 256 * 2 ^ (8 * k) : Nat) : Int)) = ((X / 2 ^ (8 * k) % 256 * 2 ^ (8 * k) : Nat) : Int) := by
      generalize X / 2 ^ (8 * k) % 256 * 2 ^ (8 * k) = Y at *
      simp [IntKind.wrap, IntKind.bits, IntKind.signed]; omega
    rw [e1, e2]
    have e3 := or_step X (8 * k)
    generalize X / 2 ^ (8 * k) % 256 * 2 ^ (8 * k) = Y at *
    generalize X % 2 ^ (8 * k) = Z at *
    rw [u64_or (Z : Int) (Y : Int) (by omega) (by omega) (by omega) (by omega), Int.toNat_natCast, Int.toNat_natCast, e3]
    congr 2
theorem allB_put (X : Nat) (g : Nat → Int) (a m : Nat) (hg : ∀ i, i < m → g (a + i) = byteN (X : Int) i) : allB g a m = true := by
  unfold allB
  rw [List.all_eq_true]
  intro i hi
  rw [hg i (by simpa using hi)]
  unfold byteN
  simp only [bne_iff_ne, ne_eq]
  have e : ((X / 2 ^ (8 * i) : Nat) : Int) = (X : Int) / 2 ^ (8 * i) := by simp
  rw [← e]
  omega
end Go.Proofs.Ytjbflmpnmobngaa
