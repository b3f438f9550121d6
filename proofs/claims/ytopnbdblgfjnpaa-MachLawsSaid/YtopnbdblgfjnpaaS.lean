/- What the document's own answers give of whole numbers of either width: the same as mach's. -/
import Derived.Test.YtopnbdblgfjnpaaR
import Derived.Test.YtopnbdblgfjnpaaG
namespace Go.Proofs.Ytopnbdblgfjnpaa
set_option linter.unusedSimpArgs false
set_option linter.unusedVariables false
open Go.RowKit

theorem low64_eq (x : Int) (h0 : 0 ≤ x) (h1 : x < 18446744073709551616) : low64 x = (wrap64 x == -9223372036854775808) := by
  have e : low64 x = decide (x = 9223372036854775808) := by
    unfold low64
    rw [IntKind.wrap_u64, Bool.eq_iff_iff]
    simp only [Bool.and_eq_true, bne_iff_ne, beq_iff_eq, decide_eq_true_eq, ne_eq]
    omega
  rw [e, Bool.eq_iff_iff]
  simp only [beq_iff_eq, decide_eq_true_eq]
  unfold wrap64
  omega
theorem low32_eq (x : Int) (h0 : 0 ≤ x) (h1 : x < 4294967296) : low32 x = (wrap32 x == -2147483648) := by
  have e : low32 x = decide (x = 2147483648) := by
    unfold low32
    rw [Bool.eq_iff_iff]
    simp only [Bool.and_eq_true, bne_iff_ne, beq_iff_eq, decide_eq_true_eq, ne_eq]
    omega
  rw [e, Bool.eq_iff_iff]
  simp only [beq_iff_eq, decide_eq_true_eq]
  unfold wrap32
  omega
theorem wrap64_zero (y : Int) (h0 : 0 ≤ y) (h1 : y < 18446744073709551616) : (wrap64 y = 0) = (y = 0) := by
  rw [eq_iff_iff]; unfold wrap64; omega
theorem rwhole64_3 (x y : Int) (w : World) :
    Calls Try.prog 45 #[.int .i64 3, .int .u64 x, .int .u64 y, .int .i64 64] w fun e w' => e = .returned (.tuple #[.int .u64 (whole64 3 x y).1, .bool (whole64 3 x y).2]) ∧ w = w' := by
  by_cases hm : wrap64 x = -9223372036854775808 <;>
  · go_enter Try.func45, Try.ntmps45
    go_wp2
    all_goals (go_returns; go_light)
    all_goals exact ⟨ret_pair (by simp [whole64, arith64, isShiftL]), rfl⟩
theorem rwhole64_4 (x y : Int) (w : World) :
    Calls Try.prog 45 #[.int .i64 4, .int .u64 x, .int .u64 y, .int .i64 64] w fun e w' => e = .returned (.tuple #[.int .u64 (whole64 4 x y).1, .bool (whole64 4 x y).2]) ∧ w = w' := by
  by_cases hm : wrap64 x = -9223372036854775808 <;>
  · go_enter Try.func45, Try.ntmps45
    go_wp2
    all_goals (go_returns; go_light)
    all_goals exact ⟨ret_pair (by simp [whole64, arith64, isShiftL]), rfl⟩
theorem rwhole64_5 (x y : Int) (w : World) :
    Calls Try.prog 45 #[.int .i64 5, .int .u64 x, .int .u64 y, .int .i64 64] w fun e w' => e = .returned (.tuple #[.int .u64 (whole64 5 x y).1, .bool (whole64 5 x y).2]) ∧ w = w' := by
  by_cases hm : wrap64 x = -9223372036854775808 <;>
  · go_enter Try.func45, Try.ntmps45
    go_wp2
    all_goals (go_returns; go_light)
    all_goals exact ⟨ret_pair (by simp [whole64, arith64, isShiftL]), rfl⟩
theorem rwhole64_10 (x y : Int) (w : World) :
    Calls Try.prog 45 #[.int .i64 10, .int .u64 x, .int .u64 y, .int .i64 64] w fun e w' => e = .returned (.tuple #[.int .u64 (whole64 10 x y).1, .bool (whole64 10 x y).2]) ∧ w = w' := by
  by_cases hm : wrap64 x = -9223372036854775808 <;>
  · go_enter Try.func45, Try.ntmps45
    go_wp2
    all_goals (go_returns; go_light)
    all_goals exact ⟨ret_pair (by simp [whole64, arith64, isShiftL]), rfl⟩
theorem rwhole64_11 (x y : Int) (w : World) :
    Calls Try.prog 45 #[.int .i64 11, .int .u64 x, .int .u64 y, .int .i64 64] w fun e w' => e = .returned (.tuple #[.int .u64 (whole64 11 x y).1, .bool (whole64 11 x y).2]) ∧ w = w' := by
  by_cases hm : wrap64 x = -9223372036854775808 <;>
  · go_enter Try.func45, Try.ntmps45
    go_wp2
    all_goals (go_returns; go_light)
    all_goals exact ⟨ret_pair (by simp [whole64, arith64, isShiftL]), rfl⟩
theorem rwhole64_12 (x y : Int) (w : World) :
    Calls Try.prog 45 #[.int .i64 12, .int .u64 x, .int .u64 y, .int .i64 64] w fun e w' => e = .returned (.tuple #[.int .u64 (whole64 12 x y).1, .bool (whole64 12 x y).2]) ∧ w = w' := by
  by_cases hm : wrap64 x = -9223372036854775808 <;>
  · go_enter Try.func45, Try.ntmps45
    go_wp2
    all_goals (go_returns; go_light)
    all_goals exact ⟨ret_pair (by simp [whole64, arith64, isShiftL]), rfl⟩
theorem rwhole64_6 (x y : Int) (hx : 0 ≤ x) (hx' : x < 18446744073709551616) (w : World) :
    Calls Try.prog 45 #[.int .i64 6, .int .u64 x, .int .u64 y, .int .i64 64] w fun e w' => e = .returned (.tuple #[.int .u64 (whole64 6 x y).1, .bool (whole64 6 x y).2]) ∧ w = w' := by
  by_cases hm : wrap64 x = -9223372036854775808 <;> by_cases hy0 : wrap64 y = 0 <;> by_cases hy1 : wrap64 y = -1
  all_goals
    go_enter Try.func45, Try.ntmps45
    go_wp2
    all_goals (go_returns; go_light)
    all_goals exact ⟨ret_pair (by have hl := low64_eq x hx hx'; simp_all [whole64, divS64, isShiftL, IntKind.wrap_u64, Int.tmod_eq_emod_of_nonneg]), rfl⟩
theorem rwhole64_8 (x y : Int) (hx : 0 ≤ x) (hx' : x < 18446744073709551616) (w : World) :
    Calls Try.prog 45 #[.int .i64 8, .int .u64 x, .int .u64 y, .int .i64 64] w fun e w' => e = .returned (.tuple #[.int .u64 (whole64 8 x y).1, .bool (whole64 8 x y).2]) ∧ w = w' := by
  by_cases hm : wrap64 x = -9223372036854775808 <;> by_cases hy0 : wrap64 y = 0 <;> by_cases hy1 : wrap64 y = -1
  all_goals
    go_enter Try.func45, Try.ntmps45
    go_wp2
    all_goals (go_returns; go_light)
    all_goals exact ⟨ret_pair (by have hl := low64_eq x hx hx'; simp_all [whole64, divS64, isShiftL, IntKind.wrap_u64, Int.tmod_eq_emod_of_nonneg]), rfl⟩
theorem rwhole64_7 (x y : Int) (hx : 0 ≤ x) (hy : 0 ≤ y) (w : World) :
    Calls Try.prog 45 #[.int .i64 7, .int .u64 x, .int .u64 y, .int .i64 64] w fun e w' => e = .returned (.tuple #[.int .u64 (whole64 7 x y).1, .bool (whole64 7 x y).2]) ∧ w = w' := by
  by_cases hm : wrap64 x = -9223372036854775808 <;> by_cases hy0 : y = 0
  all_goals
    (try have hy1 : 1 ≤ y := by omega)
    go_enter Try.func45, Try.ntmps45
    go_wp2
    all_goals (go_returns; go_light)
    all_goals exact ⟨ret_pair (by simp [whole64, divU64, isShiftL, *]), rfl⟩
theorem rwhole64_9 (x y : Int) (hx : 0 ≤ x) (hy : 0 ≤ y) (w : World) :
    Calls Try.prog 45 #[.int .i64 9, .int .u64 x, .int .u64 y, .int .i64 64] w fun e w' => e = .returned (.tuple #[.int .u64 (whole64 9 x y).1, .bool (whole64 9 x y).2]) ∧ w = w' := by
  by_cases hm : wrap64 x = -9223372036854775808 <;> by_cases hy0 : y = 0
  all_goals
    (try have hy1 : 1 ≤ y := by omega)
    go_enter Try.func45, Try.ntmps45
    go_wp2
    all_goals (go_returns; go_light)
    all_goals exact ⟨ret_pair (by simp [whole64, divU64, isShiftL, *]), rfl⟩

theorem mod32 {x y : Int} (a : 0 ≤ x) (b : y < 4294967296) (c : 1 ≤ y) : x % y % 4294967296 = x % y := by
  have h1 := Int.emod_nonneg x (show y ≠ 0 by omega)
  have h2 := Int.emod_lt_of_pos x (show 0 < y by omega)
  omega
theorem wrap64_32 (n : Int) : wrap64 (wrap32 n) = wrap32 n := by unfold wrap64 wrap32; omega
theorem bits_and32 {x y : Int} (a : 0 ≤ x) (b : x < 4294967296) (c : 0 ≤ y) (d : y < 4294967296) : bits .and .u64 x y % 4294967296 = bits .and .u32 x y := by
  have h : (x.toNat &&& y.toNat) < 2 ^ 32 := Nat.and_lt_two_pow _ (by omega)
  rw [u64_and x y a (by omega) c (by omega), u32_and x y a b c d]
  omega
theorem bits_or32 {x y : Int} (a : 0 ≤ x) (b : x < 4294967296) (c : 0 ≤ y) (d : y < 4294967296) : bits .or .u64 x y % 4294967296 = bits .or .u32 x y := by
  have h : (x.toNat ||| y.toNat) < 2 ^ 32 := Nat.or_lt_two_pow (by omega) (by omega)
  rw [u64_or x y a (by omega) c (by omega), u32_or x y a b c d]
  omega
theorem bits_xor32 {x y : Int} (a : 0 ≤ x) (b : x < 4294967296) (c : 0 ≤ y) (d : y < 4294967296) : bits .xor .u64 x y % 4294967296 = bits .xor .u32 x y := by
  have h : (x.toNat ^^^ y.toNat) < 2 ^ 32 := Nat.xor_lt_two_pow (by omega) (by omega)
  rw [u64_xor x y a (by omega) c (by omega), u32_xor x y a b c d]
  omega
/-- What the document's own operation of 32 bits leaves: cut to 32 bits it is mach's. -/
def R32 (o x y : Int) (w : World) (e : Ending) (w' : World) : Prop :=
  ∃ r : Int, e = .returned (.tuple #[.int .u64 r, .bool (whole32 o (x % 4294967296) (y % 4294967296)).2]) ∧ ((whole32 o (x % 4294967296) (y % 4294967296)).2 = true → r % 4294967296 = (whole32 o (x % 4294967296) (y % 4294967296)).1) ∧ w = w'
theorem R32_mk {o x y r : Int} {c : Bool} {w : World} (h1 : c = (whole32 o (x % 4294967296) (y % 4294967296)).2) (h2 : c = true → r % 4294967296 = (whole32 o (x % 4294967296) (y % 4294967296)).1) : R32 o x y w (.returned (.tuple #[.int .u64 r, .bool c])) w :=
  ⟨r, by rw [h1], fun h => h2 (by rw [h1, h]), rfl⟩
end Go.Proofs.Ytopnbdblgfjnpaa
