/- What the small calls of the document's own answers give. -/
import Derived.Test.YtjbflmpnmobngaaYa
import Derived.Deep.RegionHeld3
namespace Go.Proofs.Ytjbflmpnmobngaa.two
set_option linter.unusedSimpArgs false
set_option linter.unusedVariables false
open Go.RowKit
attribute [local go_sem ↓] run_f64bits run_f64from

theorem rInt_any (n : Int) (w : World) :
    Calls Try.prog 39 #[.int .i32 n] w fun e w' => e = .returned (.agg #[.int .i64 (intL n).1, .int .u64 (intL n).2.1, .int .i64 (intL n).2.2]) ∧ Fresh w w' := by
  go_enter Try.func39, Try.ntmps39
  go_wp2
  go_returns
  exact ⟨ret_val rfl, (Fresh.refl _).alloc _ _⟩
theorem rLong_any (n : Int) (w : World) :
    Calls Try.prog 40 #[.int .i64 n] w fun e w' => e = .returned (.agg #[.int .i64 (longL n).1, .int .u64 (longL n).2.1, .int .i64 (longL n).2.2]) ∧ Fresh w w' := by
  go_enter Try.func40, Try.ntmps40
  go_wp2
  go_returns
  exact ⟨ret_val rfl, (Fresh.refl _).alloc _ _⟩
theorem rPtr_any (b o : Int) (w : World) :
    Calls Try.prog 94 #[.int .i64 b, .int .i64 o] w fun e w' => e = .returned (.agg #[.int .i64 (ptrL b o).1, .int .u64 (ptrL b o).2.1, .int .i64 (ptrL b o).2.2]) ∧ Fresh w w' := by
  go_enter Try.func94, Try.ntmps94
  go_wp2
  all_goals (go_returns; go_light)
  all_goals exact ⟨ret_val (by simp [ptrL, *]), (Fresh.refl _).alloc _ _⟩
theorem rdbl_any (k n b : Int) (w : World) :
    Calls Try.prog 69 #[.agg #[.int .i64 k, .int .u64 n, .int .i64 b]] w fun e w' => e = .returned (.float .f64 n.toNat) ∧ w.alloc (.cells #[.int .i64 k, .int .u64 n, .int .i64 b] 32) = w' := by
  go_enter Try.func69, Try.ntmps69
  go_wp2
  all_goals (go_returns; exact ⟨rfl, rfl⟩)
theorem ri64_any (k n b : Int) (w : World) :
    Calls Try.prog 70 #[.agg #[.int .i64 k, .int .u64 n, .int .i64 b]] w fun e w' => e = .returned (.int .i64 (wrap64 n)) ∧ w.alloc (.cells #[.int .i64 k, .int .u64 n, .int .i64 b] 32) = w' := by
  go_enter Try.func70, Try.ntmps70
  go_wp2
  all_goals (go_returns; exact ⟨rfl, rfl⟩)
theorem ri32_any (k n b : Int) (w : World) :
    Calls Try.prog 71 #[.agg #[.int .i64 k, .int .u64 n, .int .i64 b]] w fun e w' => e = .returned (.int .i32 (wrap32 (n % 4294967296))) ∧ w.alloc (.cells #[.int .i64 k, .int .u64 n, .int .i64 b] 32) = w' := by
  go_enter Try.func71, Try.ntmps71
  go_wp2
  all_goals (go_returns; exact ⟨rfl, rfl⟩)
theorem ru32_any (k n b : Int) (w : World) :
    Calls Try.prog 72 #[.agg #[.int .i64 k, .int .u64 n, .int .i64 b]] w fun e w' => e = .returned (.int .u32 (n % 4294967296)) ∧ w.alloc (.cells #[.int .i64 k, .int .u64 n, .int .i64 b] 32) = w' := by
  go_enter Try.func72, Try.ntmps72
  go_wp2
  all_goals (go_returns; exact ⟨rfl, rfl⟩)
def comparedL (o : Int) (l s : Bool) : Bool :=
  if o == 16 then s else if o == 17 then !s else if o == 18 || o == 22 then l else if o == 19 || o == 23 then l || s else if o == 20 || o == 24 then !l && !s else !l
theorem compared_any (o : Int) (l s : Bool) (w : World) :
    Calls Try.prog 74 #[.int .i64 o, .bool l, .bool s] w fun e w' => e = .returned (.bool (comparedL o l s)) ∧ w = w' := by
  go_enter Try.func74, Try.ntmps74
  go_wp2
  all_goals (go_returns; go_light)
  all_goals exact ⟨ret_bool (by simp [comparedL, *]), rfl⟩
theorem yes_any (c : Bool) (w : World) :
    Calls Try.prog 73 #[.bool c] w fun e w' => e = .returned (.agg #[.int .i64 1, .int .u64 (flagL c), .int .i64 0]) ∧ Fresh w w' := by
  cases c <;>
  · go_enter Try.func73, Try.ntmps73
    go_wp2
    all_goals (go_returns; exact ⟨rfl, ((Fresh.refl _).alloc _ _).alloc _ _⟩)
theorem rDbl_any (x : Nat) (w : World) :
    Calls Try.prog 95 #[.float .f64 x] w fun e w' => e = .returned (.agg #[.int .i64 3, .int .u64 (dblBitsL x), .int .i64 0]) ∧ Fresh w w' := by
  go_enter Try.func95, Try.ntmps95
  go_wp2
  all_goals (go_returns; go_light)
  all_goals exact ⟨by simp [dblBitsL, nanL, *], (Fresh.refl _).alloc _ _⟩
end Go.Proofs.Ytjbflmpnmobngaa.two
/- What the document's own answers give of whole numbers of either width: the same as mach's. -/
namespace Go.Proofs.Ytjbflmpnmobngaa.two
set_option linter.unusedSimpArgs false
set_option linter.unusedVariables false
open Go.RowKit

theorem low64_eq (x : Int) (h0 : 0 ≤ x) (h1 : x < 18446744073709551616) : low64 x = (wrap64 x == -9223372036854775808) := by
  have e : low64 x = decide (x = 9223372036854775808) := by
    unfold low64
    rw [IntKind.wrap_u64, Bool.eq_iff_iff]
    simp only [Bool.and_eq_true, bne_iff_ne, beq_iff_eq, decide_eq_true_eq, ne_eq]
    omega
  rw [e, Bool.eq_iff_iff]
  simp only [beq_iff_eq, decide_eq_true_eq]
  unfold wrap64
  omega
theorem low32_eq (x : Int) (h0 : 0 ≤ x) (h1 : x < 4294967296) : low32 x = (wrap32 x == -2147483648) := by
  have e : low32 x = decide (x = 2147483648) := by
    unfold low32
    rw [Bool.eq_iff_iff]
    simp only [Bool.and_eq_true, bne_iff_ne, beq_iff_eq, decide_eq_true_eq, ne_eq]
    omega
  rw [e, Bool.eq_iff_iff]
  simp only [beq_iff_eq, decide_eq_true_eq]
  unfold wrap32
  omega
theorem wrap64_zero (y : Int) (h0 : 0 ≤ y) (h1 : y < 18446744073709551616) : (wrap64 y = 0) = (y = 0) := by
  rw [eq_iff_iff]; unfold wrap64; omega
theorem rwhole64_3 (x y : Int) (w : World) :
    Calls Try.prog 76 #[.int .i64 3, .int .u64 x, .int .u64 y, .int .i64 64] w fun e w' => e = .returned (.tuple #[.int .u64 (whole64 3 x y).1, .bool (whole64 3 x y).2]) ∧ w = w' := by
  by_cases hm : wrap64 x = -9223372036854775808 <;>
  · go_enter Try.func76, Try.ntmps76
    go_wp2
    all_goals (go_returns; go_light)
    all_goals exact ⟨ret_pair (by simp [whole64, arith64, isShiftL]), rfl⟩
theorem rwhole64_4 (x y : Int) (w : World) :
    Calls Try.prog 76 #[.int .i64 4, .int .u64 x, .int .u64 y, .int .i64 64] w fun e w' => e = .returned (.tuple #[.int .u64 (whole64 4 x y).1, .bool (whole64 4 x y).2]) ∧ w = w' := by
  by_cases hm : wrap64 x = -9223372036854775808 <;>
  · go_enter Try.func76, Try.ntmps76
    go_wp2
    all_goals (go_returns; go_light)
    all_goals exact ⟨ret_pair (by simp [whole64, arith64, isShiftL]), rfl⟩
theorem rwhole64_5 (x y : Int) (w : World) :
    Calls Try.prog 76 #[.int .i64 5, .int .u64 x, .int .u64 y, .int .i64 64] w fun e w' => e = .returned (.tuple #[.int .u64 (whole64 5 x y).1, .bool (whole64 5 x y).2]) ∧ w = w' := by
  by_cases hm : wrap64 x = -9223372036854775808 <;>
  · go_enter Try.func76, Try.ntmps76
    go_wp2
    all_goals (go_returns; go_light)
    all_goals exact ⟨ret_pair (by simp [whole64, arith64, isShiftL]), rfl⟩
theorem rwhole64_10 (x y : Int) (w : World) :
    Calls Try.prog 76 #[.int .i64 10, .int .u64 x, .int .u64 y, .int .i64 64] w fun e w' => e = .returned (.tuple #[.int .u64 (whole64 10 x y).1, .bool (whole64 10 x y).2]) ∧ w = w' := by
  by_cases hm : wrap64 x = -9223372036854775808 <;>
  · go_enter Try.func76, Try.ntmps76
    go_wp2
    all_goals (go_returns; go_light)
    all_goals exact ⟨ret_pair (by simp [whole64, arith64, isShiftL]), rfl⟩
theorem rwhole64_11 (x y : Int) (w : World) :
    Calls Try.prog 76 #[.int .i64 11, .int .u64 x, .int .u64 y, .int .i64 64] w fun e w' => e = .returned (.tuple #[.int .u64 (whole64 11 x y).1, .bool (whole64 11 x y).2]) ∧ w = w' := by
  by_cases hm : wrap64 x = -9223372036854775808 <;>
  · go_enter Try.func76, Try.ntmps76
    go_wp2
    all_goals (go_returns; go_light)
    all_goals exact ⟨ret_pair (by simp [whole64, arith64, isShiftL]), rfl⟩
theorem rwhole64_12 (x y : Int) (w : World) :
    Calls Try.prog 76 #[.int .i64 12, .int .u64 x, .int .u64 y, .int .i64 64] w fun e w' => e = .returned (.tuple #[.int .u64 (whole64 12 x y).1, .bool (whole64 12 x y).2]) ∧ w = w' := by
  by_cases hm : wrap64 x = -9223372036854775808 <;>
  · go_enter Try.func76, Try.ntmps76
    go_wp2
    all_goals (go_returns; go_light)
    all_goals exact ⟨ret_pair (by simp [whole64, arith64, isShiftL]), rfl⟩
theorem rwhole64_6 (x y : Int) (hx : 0 ≤ x) (hx' : x < 18446744073709551616) (w : World) :
    Calls Try.prog 76 #[.int .i64 6, .int .u64 x, .int .u64 y, .int .i64 64] w fun e w' => e = .returned (.tuple #[.int .u64 (whole64 6 x y).1, .bool (whole64 6 x y).2]) ∧ w = w' := by
  by_cases hm : wrap64 x = -9223372036854775808 <;> by_cases hy0 : wrap64 y = 0 <;> by_cases hy1 : wrap64 y = -1
  all_goals
    go_enter Try.func76, Try.ntmps76
    go_wp2
    all_goals (go_returns; go_light)
    all_goals exact ⟨ret_pair (by have hl := low64_eq x hx hx'; simp_all [whole64, divS64, isShiftL, IntKind.wrap_u64, Int.tmod_eq_emod_of_nonneg]), rfl⟩
theorem rwhole64_8 (x y : Int) (hx : 0 ≤ x) (hx' : x < 18446744073709551616) (w : World) :
    Calls Try.prog 76 #[.int .i64 8, .int .u64 x, .int .u64 y, .int .i64 64] w fun e w' => e = .returned (.tuple #[.int .u64 (whole64 8 x y).1, .bool (whole64 8 x y).2]) ∧ w = w' := by
  by_cases hm : wrap64 x = -9223372036854775808 <;> by_cases hy0 : wrap64 y = 0 <;> by_cases hy1 : wrap64 y = -1
  all_goals
    go_enter Try.func76, Try.ntmps76
    go_wp2
    all_goals (go_returns; go_light)
    all_goals exact ⟨ret_pair (by have hl := low64_eq x hx hx'; simp_all [whole64, divS64, isShiftL, IntKind.wrap_u64, Int.tmod_eq_emod_of_nonneg]), rfl⟩
theorem rwhole64_7 (x y : Int) (hx : 0 ≤ x) (hy : 0 ≤ y) (w : World) :
    Calls Try.prog 76 #[.int .i64 7, .int .u64 x, .int .u64 y, .int .i64 64] w fun e w' => e = .returned (.tuple #[.int .u64 (whole64 7 x y).1, .bool (whole64 7 x y).2]) ∧ w = w' := by
  by_cases hm : wrap64 x = -9223372036854775808 <;> by_cases hy0 : y = 0
  all_goals
    (try have hy1 : 1 ≤ y := by omega)
    go_enter Try.func76, Try.ntmps76
    go_wp2
    all_goals (go_returns; go_light)
    all_goals exact ⟨ret_pair (by simp [whole64, divU64, isShiftL, *]), rfl⟩
theorem rwhole64_9 (x y : Int) (hx : 0 ≤ x) (hy : 0 ≤ y) (w : World) :
    Calls Try.prog 76 #[.int .i64 9, .int .u64 x, .int .u64 y, .int .i64 64] w fun e w' => e = .returned (.tuple #[.int .u64 (whole64 9 x y).1, .bool (whole64 9 x y).2]) ∧ w = w' := by
  by_cases hm : wrap64 x = -9223372036854775808 <;> by_cases hy0 : y = 0
  all_goals
    (try have hy1 : 1 ≤ y := by omega)
    go_enter Try.func76, Try.ntmps76
    go_wp2
    all_goals (go_returns; go_light)
    all_goals exact ⟨ret_pair (by simp [whole64, divU64, isShiftL, *]), rfl⟩

theorem mod32 {x y : Int} (a : 0 ≤ x) (b : y < 4294967296) (c : 1 ≤ y) : x % y % 4294967296 = x % y := by
  have h1 := Int.emod_nonneg x (show y ≠ 0 by omega)
  have h2 := Int.emod_lt_of_pos x (show 0 < y by omega)
  omega
theorem wrap64_32 (n : Int) : wrap64 (wrap32 n) = wrap32 n := by unfold wrap64 wrap32; omega
theorem bits_and32 {x y : Int} (a : 0 ≤ x) (b : x < 4294967296) (c : 0 ≤ y) (d : y < 4294967296) : bits .and .u64 x y % 4294967296 = bits .and .u32 x y := by
  have h : (x.toNat &&& y.toNat) < 2 ^ 32 := Nat.and_lt_two_pow _ (by omega)
  rw [u64_and x y a (by omega) c (by omega), u32_and x y a b c d]
  omega
theorem bits_or32 {x y : Int} (a : 0 ≤ x) (b : x < 4294967296) (c : 0 ≤ y) (d : y < 4294967296) : bits .or .u64 x y % 4294967296 = bits .or .u32 x y := by
  have h : (x.toNat ||| y.toNat) < 2 ^ 32 := Nat.or_lt_two_pow (by omega) (by omega)
  rw [u64_or x y a (by omega) c (by omega), u32_or x y a b c d]
  omega
theorem bits_xor32 {x y : Int} (a : 0 ≤ x) (b : x < 4294967296) (c : 0 ≤ y) (d : y < 4294967296) : bits .xor .u64 x y % 4294967296 = bits .xor .u32 x y := by
  have h : (x.toNat ^^^ y.toNat) < 2 ^ 32 := Nat.xor_lt_two_pow (by omega) (by omega)
  rw [u64_xor x y a (by omega) c (by omega), u32_xor x y a b c d]
  omega
/-- What the document's own operation of 32 bits leaves: cut to 32 bits it is mach's. -/
def R32 (o x y : Int) (w : World) (e : Ending) (w' : World) : Prop :=
  ∃ r : Int, e = .returned (.tuple #[.int .u64 r, .bool (whole32 o (x % 4294967296) (y % 4294967296)).2]) ∧ ((whole32 o (x % 4294967296) (y % 4294967296)).2 = true → r % 4294967296 = (whole32 o (x % 4294967296) (y % 4294967296)).1) ∧ w = w'
theorem R32_mk {o x y r : Int} {c : Bool} {w : World} (h1 : c = (whole32 o (x % 4294967296) (y % 4294967296)).2) (h2 : c = true → r % 4294967296 = (whole32 o (x % 4294967296) (y % 4294967296)).1) : R32 o x y w (.returned (.tuple #[.int .u64 r, .bool c])) w :=
  ⟨r, by rw [h1], fun h => h2 (by rw [h1, h]), rfl⟩
end Go.Proofs.Ytjbflmpnmobngaa.two
/- The numbers that an operation answers lie within its width. -/
namespace Go.Proofs.Ytjbflmpnmobngaa.two
set_option linter.unusedSimpArgs false
set_option linter.unusedVariables false
open Go.RowKit

theorem flagL_range (b : Bool) : 0 ≤ flagL b ∧ flagL b < 2 := by cases b <;> simp [flagL]
theorem pow_pos' (k : Nat) : (0 : Int) < 2 ^ k := Int.pow_pos (by decide)
theorem div_range {x : Int} (k : Nat) (h : 0 ≤ x) : 0 ≤ x / 2 ^ k ∧ x / 2 ^ k ≤ x :=
  ⟨Int.ediv_nonneg h (Int.le_of_lt (pow_pos' k)), Int.ediv_le_self _ h⟩
theorem arith32_range (o x y : Int) (hx : 0 ≤ x) (hX : x < 4294967296) (hy : 0 ≤ y) (hY : y < 4294967296) : 0 ≤ arith32 o x y ∧ arith32 o x y < 4294967296 := by
  have a : (x.toNat &&& y.toNat) < 2 ^ 32 := Nat.and_lt_two_pow _ (by omega)
  have b : (x.toNat ||| y.toNat) < 2 ^ 32 := Nat.or_lt_two_pow (by omega) (by omega)
  have c : (x.toNat ^^^ y.toNat) < 2 ^ 32 := Nat.xor_lt_two_pow (by omega) (by omega)
  unfold arith32
  rw [u32_and x y hx hX hy hY, u32_or x y hx hX hy hY, u32_xor x y hx hX hy hY]
  repeat' split
  all_goals omega
theorem arith64_range (o x y : Int) (hx : 0 ≤ x) (hX : x < 18446744073709551616) (hy : 0 ≤ y) (hY : y < 18446744073709551616) : 0 ≤ arith64 o x y ∧ arith64 o x y < 18446744073709551616 := by
  have a : (x.toNat &&& y.toNat) < 2 ^ 64 := Nat.and_lt_two_pow _ (by omega)
  have b : (x.toNat ||| y.toNat) < 2 ^ 64 := Nat.or_lt_two_pow (by omega) (by omega)
  have c : (x.toNat ^^^ y.toNat) < 2 ^ 64 := Nat.xor_lt_two_pow (by omega) (by omega)
  unfold arith64
  rw [u64_and x y hx hX hy hY, u64_or x y hx hX hy hY, u64_xor x y hx hX hy hY]
  simp only [IntKind.wrap_u64]
  repeat' split
  all_goals omega
theorem divU32_range (c : Bool) (x y : Int) (hy : 0 ≤ y) (hY : y < 4294967296) : 0 ≤ (divU32 c x y).1 ∧ (divU32 c x y).1 < 4294967296 := by
  unfold divU32
  by_cases h : y = 0
  · simp [h]
  · have h1 := Int.emod_nonneg x h
    have h2 := Int.emod_lt_of_pos x (show 0 < y by omega)
    rw [if_neg (by simpa using h)]
    split
    · dsimp only; omega
    · dsimp only; omega
theorem divU64_range (c : Bool) (x y : Int) (hy : 0 ≤ y) (hY : y < 18446744073709551616) : 0 ≤ (divU64 c x y).1 ∧ (divU64 c x y).1 < 18446744073709551616 := by
  unfold divU64
  by_cases h : y = 0
  · simp [h]
  · have h1 := Int.emod_nonneg x h
    have h2 := Int.emod_lt_of_pos x (show 0 < y by omega)
    rw [if_neg (by simpa using h)]
    simp only [IntKind.wrap_u64]
    split
    · dsimp only; omega
    · dsimp only; omega
theorem shift32_range (o x y : Int) (hx : 0 ≤ x) (hX : x < 4294967296) : 0 ≤ (shiftT32 o x y).1 ∧ (shiftT32 o x y).1 < 4294967296 := by
  unfold shiftT32 shift32
  have := div_range y.toNat hx
  repeat' split
  all_goals (dsimp only; omega)
theorem shift64_range (o x y : Int) (hx : 0 ≤ x) (hX : x < 18446744073709551616) : 0 ≤ (shiftT64 o x y).1 ∧ (shiftT64 o x y).1 < 18446744073709551616 := by
  unfold shiftT64 shift64
  have := div_range y.toNat hx
  simp only [IntKind.wrap_u64]
  repeat' split
  all_goals (dsimp only; omega)
theorem whole32_range (o x y : Int) (hx : 0 ≤ x) (hX : x < 4294967296) (hy : 0 ≤ y) (hY : y < 4294967296) : 0 ≤ (whole32 o x y).1 ∧ (whole32 o x y).1 < 4294967296 := by
  have f1 := flagL_range (compareL (o - 22 + 18) x y)
  have f2 := flagL_range (compareL o (wrap32 x) (wrap32 y))
  have s := shift32_range o x y hx hX
  have d := divU32_range (o == 9) x y hy hY
  have a := arith32_range o x y hx hX hy hY
  unfold whole32
  repeat' split
  all_goals (first | assumption | (dsimp only; omega))
theorem whole64_range (o x y : Int) (hx : 0 ≤ x) (hX : x < 18446744073709551616) (hy : 0 ≤ y) (hY : y < 18446744073709551616) : 0 ≤ (whole64 o x y).1 ∧ (whole64 o x y).1 < 18446744073709551616 := by
  have f1 := flagL_range (compareL (o - 22 + 18) x y)
  have f2 := flagL_range (compareL o (wrap64 x) (wrap64 y))
  have s := shift64_range o x y hx hX
  have d := divU64_range (o == 9) x y hy hY
  have a := arith64_range o x y hx hX hy hY
  unfold whole64
  simp only [IntKind.wrap_u64]
  repeat' split
  all_goals (first | assumption | (dsimp only; omega))
end Go.Proofs.Ytjbflmpnmobngaa.two
/- What the document's own answers give of shifts and of doubles: the same as mach's. -/
namespace Go.Proofs.Ytjbflmpnmobngaa.two
set_option linter.unusedSimpArgs false
set_option linter.unusedVariables false
open Go.RowKit

theorem ret_val3 {k n b k' n' : Int} (h : k' = k) (h2 : n' = n) : Ending.returned (.agg #[.int .i64 k, .int .u64 n, .int .i64 b]) = Ending.returned (.agg #[.int .i64 k', .int .u64 n', .int .i64 b]) := by rw [h, h2]
theorem shiftN {n : Int} (h0 : 0 ≤ n) (h : n < 64) : wrap64 (wrap32 n) = n := by unfold wrap64 wrap32; omega
theorem whole64_shift (o x y : Int) (h1 : 13 ≤ o) (h2 : o ≤ 15) : whole64 o x y = shiftT64 o x y := by
  have hs : isShiftL o = true := by have h : o = 13 ∨ o = 14 ∨ o = 15 := by omega
                                    rcases h with rfl | rfl | rfl <;> rfl
  unfold whole64
  rw [if_neg (by omega), if_neg (by omega), if_pos hs]
theorem whole32_shift (o x y : Int) (h1 : 13 ≤ o) (h2 : o ≤ 15) : whole32 o x y = shiftT32 o x y := by
  have hs : isShiftL o = true := by have h : o = 13 ∨ o = 14 ∨ o = 15 := by omega
                                    rcases h with rfl | rfl | rfl <;> rfl
  unfold whole32
  rw [if_neg (by omega), if_neg (by omega), if_pos hs]
/-- What the document's own shift of 32 bits leaves: cut to 32 bits it is mach's. -/
def S32 (o x y : Int) (w : World) (e : Ending) (w' : World) : Prop :=
  ∃ r : Int, e = .returned (.tuple #[.int .u64 r, .bool (shiftT32 o (x % 4294967296) (y % 4294967296)).2]) ∧ ((shiftT32 o (x % 4294967296) (y % 4294967296)).2 = true → r % 4294967296 = (shiftT32 o (x % 4294967296) (y % 4294967296)).1) ∧ Fresh w w'
theorem S32_mk {o x y r : Int} {c : Bool} {w w' : World} (h1 : c = (shiftT32 o (x % 4294967296) (y % 4294967296)).2) (h2 : c = true → r % 4294967296 = (shiftT32 o (x % 4294967296) (y % 4294967296)).1) (hf : Fresh w w') : S32 o x y w (.returned (.tuple #[.int .u64 r, .bool c])) w' :=
  ⟨r, by rw [h1], fun h => h2 (by rw [h1, h]), hf⟩
theorem div_pow_lt {x : Int} (a : 0 ≤ x) (b : x < 4294967296) (k : Nat) : x / 2 ^ k % 4294967296 = x / 2 ^ k := by
  have hp : (0 : Int) < 2 ^ k := Int.pow_pos (by decide)
  have h1 : 0 ≤ x / 2 ^ k := Int.ediv_nonneg a (by omega)
  have h2 : x / 2 ^ k ≤ x := Int.ediv_le_self _ a
  omega
theorem rshift64_any (o x n b : Int) (h1 : 13 ≤ o) (h2 : o ≤ 15) (w : World) :
    Calls Try.prog 75 #[.int .i64 o, .int .u64 x, .agg #[.int .i64 1, .int .u64 n, .int .i64 b], .int .i64 64] w fun e w' => e = .returned (.tuple #[.int .u64 (shiftT64 o x (n % 4294967296)).1, .bool (shiftT64 o x (n % 4294967296)).2]) ∧ Fresh w w' := by
  have hN : 0 ≤ n % 4294967296 := by omega
  by_cases hn : n % 4294967296 < 64
  · have e := shiftN hN (by omega)
    go_enter Try.func75, Try.ntmps75
    go_wp2_with ((go_at_call 71; refine (ri32_any _ _ _ _).mono ?_; rintro e w' ⟨rfl, rfl⟩))
    all_goals (go_returns; go_light)
    all_goals exact ⟨ret_pair (by simp (disch := omega) [shiftT64, shift64, if_pos, if_neg, *]), by (repeat' first | with_reducible exact Fresh.refl _ | with_reducible assumption | with_reducible refine Fresh.alloc ?_ _ _ | with_reducible refine Fresh.drew ?_ | with_reducible refine Fresh.setCell ?_ ?_ _ | with_reducible refine Fresh.trans ?_ (by assumption) | (simp; done) | (simp; omega))⟩
  · by_cases hi : wrap64 (wrap32 (n % 4294967296)) < 0
    · go_enter Try.func75, Try.ntmps75
      go_wp2_with ((go_at_call 71; refine (ri32_any _ _ _ _).mono ?_; rintro e w' ⟨rfl, rfl⟩))
      all_goals (go_returns; go_light)
      all_goals exact ⟨ret_pair (by simp (disch := omega) [shiftT64, if_neg]), by (repeat' first | with_reducible exact Fresh.refl _ | with_reducible assumption | with_reducible refine Fresh.alloc ?_ _ _ | with_reducible refine Fresh.drew ?_ | with_reducible refine Fresh.setCell ?_ ?_ _ | with_reducible refine Fresh.trans ?_ (by assumption) | (simp; done) | (simp; omega))⟩
    · have hj : 64 ≤ wrap64 (wrap32 (n % 4294967296)) := by unfold wrap64 wrap32 at *; omega
      go_enter Try.func75, Try.ntmps75
      go_wp2_with ((go_at_call 71; refine (ri32_any _ _ _ _).mono ?_; rintro e w' ⟨rfl, rfl⟩))
      all_goals (go_returns; go_light)
      all_goals exact ⟨ret_pair (by simp (disch := omega) [shiftT64, if_neg]), by (repeat' first | with_reducible exact Fresh.refl _ | with_reducible assumption | with_reducible refine Fresh.alloc ?_ _ _ | with_reducible refine Fresh.drew ?_ | with_reducible refine Fresh.setCell ?_ ?_ _ | with_reducible refine Fresh.trans ?_ (by assumption) | (simp; done) | (simp; omega))⟩
theorem rshift32_any (o x n b : Int) (h1 : 13 ≤ o) (h2 : o ≤ 15) (w : World) :
    Calls Try.prog 75 #[.int .i64 o, .int .u64 x, .agg #[.int .i64 1, .int .u64 n, .int .i64 b], .int .i64 32] w (S32 o x n w) := by
  have hX : 0 ≤ x % 4294967296 := by omega
  have hX' : x % 4294967296 < 4294967296 := by omega
  have hw64 := wrap64_32 (x % 4294967296)
  have hN : 0 ≤ n % 4294967296 := by omega
  by_cases hn : n % 4294967296 < 32
  · have e := shiftN hN (by omega)
    go_enter Try.func75, Try.ntmps75
    go_wp2_with ((go_at_call 71; refine (ri32_any _ _ _ _).mono ?_; rintro e w' ⟨rfl, rfl⟩))
    all_goals (go_returns; go_light)
    all_goals exact S32_mk (by simp (disch := omega) [shiftT32, if_pos]) (fun _ => by simp (disch := omega) [shiftT32, shift32, if_pos, if_neg, *]; try first | (rw [IntKind.wrap_u64, Int.emod_emod_of_dvd _ (by decide)]; done) | exact div_pow_lt hX hX' _) (by (repeat' first | with_reducible exact Fresh.refl _ | with_reducible assumption | with_reducible refine Fresh.alloc ?_ _ _ | with_reducible refine Fresh.drew ?_ | with_reducible refine Fresh.setCell ?_ ?_ _ | with_reducible refine Fresh.trans ?_ (by assumption) | (simp; done) | (simp; omega)))
  · by_cases hi : wrap64 (wrap32 (n % 4294967296)) < 0
    · go_enter Try.func75, Try.ntmps75
      go_wp2_with ((go_at_call 71; refine (ri32_any _ _ _ _).mono ?_; rintro e w' ⟨rfl, rfl⟩))
      all_goals (go_returns; go_light)
      all_goals exact S32_mk (by simp (disch := omega) [shiftT32, if_neg]) (fun h => Bool.noConfusion h) (by (repeat' first | with_reducible exact Fresh.refl _ | with_reducible assumption | with_reducible refine Fresh.alloc ?_ _ _ | with_reducible refine Fresh.drew ?_ | with_reducible refine Fresh.setCell ?_ ?_ _ | with_reducible refine Fresh.trans ?_ (by assumption) | (simp; done) | (simp; omega)))
    · have hj : 32 ≤ wrap64 (wrap32 (n % 4294967296)) := by unfold wrap64 wrap32 at *; omega
      go_enter Try.func75, Try.ntmps75
      go_wp2_with ((go_at_call 71; refine (ri32_any _ _ _ _).mono ?_; rintro e w' ⟨rfl, rfl⟩))
      all_goals (go_returns; go_light)
      all_goals exact S32_mk (by simp (disch := omega) [shiftT32, if_neg]) (fun h => Bool.noConfusion h) (by (repeat' first | with_reducible exact Fresh.refl _ | with_reducible assumption | with_reducible refine Fresh.alloc ?_ _ _ | with_reducible refine Fresh.drew ?_ | with_reducible refine Fresh.setCell ?_ ?_ _ | with_reducible refine Fresh.trans ?_ (by assumption) | (simp; done) | (simp; omega)))
def dblKind (o : Int) : Int := if o ≤ 65 then 3 else 1
theorem rdoubles_any (o : Int) (x y : Nat) (ho : 62 ≤ o) (ho' : o ≤ 71) (w : World) :
    Calls Try.prog 68 #[.int .i64 o, .float .f64 x, .float .f64 y] w fun e w' => e = .returned (.agg #[.int .i64 (dblKind o), .int .u64 (doublesL o x y), .int .i64 0]) ∧ Fresh w w' := by
  obtain ⟨r1, w1, e1, d1, h1⟩ := run_farith .add (by simp) x y (w.alloc (.cells #[.int .i64 0, .int .u64 0, .int .i64 0] 32))
  obtain ⟨c1, f1⟩ := h1.cells
  have z1a := h1.z (n := w.heap.size) (by simp)
  obtain ⟨r2, w2, e2, d2, h2⟩ := run_farith .sub (by simp) x y (w.alloc (.cells #[.int .i64 0, .int .u64 0, .int .i64 0] 32))
  obtain ⟨c2, f2⟩ := h2.cells
  have z2a := h2.z (n := w.heap.size) (by simp)
  obtain ⟨r3, w3, e3, d3, h3⟩ := run_farith .mul (by simp) x y (w.alloc (.cells #[.int .i64 0, .int .u64 0, .int .i64 0] 32))
  obtain ⟨c3, f3⟩ := h3.cells
  have z3a := h3.z (n := w.heap.size) (by simp)
  obtain ⟨r4, w4, e4, d4, h4⟩ := run_farith .quo (by simp) x y (w.alloc (.cells #[.int .i64 0, .int .u64 0, .int .i64 0] 32))
  obtain ⟨c4, f4⟩ := h4.cells
  have z4a := h4.z (n := w.heap.size) (by simp)
  go_enter Try.func68, Try.ntmps68
  go_wp2_with (first | (go_at_call 95; refine (rDbl_any _ _).mono ?_; rintro e w5 ⟨rfl, h5⟩; obtain ⟨c5, f5⟩ := h5.cells; have z5a := h5.z (n := w.heap.size) (by first | assumption | (simp; done) | (simp; assumption) | (simp; omega))) | (go_at_call 73; refine (yes_any _ _).mono ?_; rintro e w5 ⟨rfl, h5⟩; obtain ⟨c5, f5⟩ := h5.cells; have z5a := h5.z (n := w.heap.size) (by first | assumption | (simp; done) | (simp; assumption) | (simp; omega))))
  all_goals go_light
  all_goals first | (refine bodyPost_ret (v := ?_) ?_ rfl ?_; rotate_left 1; focus (simp [results, Try.results68, go_sem, *]; (try rfl); done)) | go_returns
  all_goals exact ⟨ret_val3 (by simp (disch := omega) [dblKind, if_pos, if_neg, beq_iff_eq, *] <;> (simp only [beq_iff_eq, beq_eq_false_iff_ne] at *; omega)) (by first | (simp [doublesL, *]; done) | ((obtain rfl : o = 66 := by (simp only [beq_iff_eq, beq_eq_false_iff_ne] at *; omega)); simp [doublesL, fcompareL]; done) | ((obtain rfl : o = 67 := by (simp only [beq_iff_eq, beq_eq_false_iff_ne] at *; omega)); simp [doublesL, fcompareL]; done) | ((obtain rfl : o = 68 := by (simp only [beq_iff_eq, beq_eq_false_iff_ne] at *; omega)); simp [doublesL, fcompareL]; done) | ((obtain rfl : o = 69 := by (simp only [beq_iff_eq, beq_eq_false_iff_ne] at *; omega)); simp [doublesL, fcompareL]; done) | ((obtain rfl : o = 70 := by (simp only [beq_iff_eq, beq_eq_false_iff_ne] at *; omega)); simp [doublesL, fcompareL]; done) | ((obtain rfl : o = 71 := by (simp only [beq_iff_eq, beq_eq_false_iff_ne] at *; omega)); simp [doublesL, fcompareL]; done)), by (repeat' first | with_reducible exact Fresh.refl _ | with_reducible assumption | with_reducible refine Fresh.alloc ?_ _ _ | with_reducible refine Fresh.drew ?_ | with_reducible refine Fresh.setCell ?_ ?_ _ | with_reducible refine Fresh.trans ?_ (by assumption) | (simp; done) | (simp; omega))⟩
end Go.Proofs.Ytjbflmpnmobngaa.two
/- What the document's own answer gives of two operands with a pointer among them. -/
namespace Go.Proofs.Ytjbflmpnmobngaa.two
set_option linter.unusedSimpArgs false
set_option linter.unusedVariables false
open Go.RowKit
set_option maxRecDepth 100000 in
set_option maxHeartbeats 2000000 in
theorem rp_c1 (o n k' n' b' : Int) (w : World) :
    Calls Try.prog 67 #[.int .i64 o, .agg #[.int .i64 4, .int .u64 n, .int .i64 0], .agg #[.int .i64 k', .int .u64 n', .int .i64 b']] w fun e w' => e = .returned (.tuple #[.agg #[.int .i64 (noneL).1.1, .int .u64 (noneL).1.2.1, .int .i64 (noneL).1.2.2], .bool (noneL).2]) ∧ Fresh w w' := by
  go_enter Try.func67, Try.ntmps67
  go_wp2_with fail
  all_goals (try go_wp2_with ((go_at_call 73; refine (yes_any _ _).mono ?_; rintro e w1 ⟨rfl, h1⟩; obtain ⟨c1, f1⟩ := h1.cells)))
  all_goals go_light
  all_goals first | (refine bodyPost_ret (v := ?_) ?_ rfl ?_; rotate_left 1; focus (simp [results, Try.results67, go_sem, *]; (try rfl); done)) | go_returns
  all_goals exact ⟨ret_valok (by rfl), by (repeat' first | with_reducible exact Fresh.refl _ | with_reducible assumption | with_reducible refine Fresh.alloc ?_ _ _ | with_reducible refine Fresh.drew ?_ | with_reducible refine Fresh.setCell ?_ ?_ _ | with_reducible refine Fresh.trans ?_ (by assumption) | (simp; done) | (simp; omega))⟩
set_option maxRecDepth 100000 in
set_option maxHeartbeats 2000000 in
theorem rp_c2a (o n b n' : Int) (h : (b == 0) = false) (w : World) :
    Calls Try.prog 67 #[.int .i64 o, .agg #[.int .i64 4, .int .u64 n, .int .i64 b], .agg #[.int .i64 4, .int .u64 n', .int .i64 0]] w fun e w' => e = .returned (.tuple #[.agg #[.int .i64 (noneL).1.1, .int .u64 (noneL).1.2.1, .int .i64 (noneL).1.2.2], .bool (noneL).2]) ∧ Fresh w w' := by
  go_enter Try.func67, Try.ntmps67
  go_wp2_with fail
  all_goals (try go_wp2_with ((go_at_call 73; refine (yes_any _ _).mono ?_; rintro e w1 ⟨rfl, h1⟩; obtain ⟨c1, f1⟩ := h1.cells)))
  all_goals go_light
  all_goals first | (refine bodyPost_ret (v := ?_) ?_ rfl ?_; rotate_left 1; focus (simp [results, Try.results67, go_sem, *]; (try rfl); done)) | go_returns
  all_goals exact ⟨ret_valok (by rfl), by (repeat' first | with_reducible exact Fresh.refl _ | with_reducible assumption | with_reducible refine Fresh.alloc ?_ _ _ | with_reducible refine Fresh.drew ?_ | with_reducible refine Fresh.setCell ?_ ?_ _ | with_reducible refine Fresh.trans ?_ (by assumption) | (simp; done) | (simp; omega))⟩
set_option maxRecDepth 100000 in
set_option maxHeartbeats 2000000 in
theorem rp_c2b (o k n b n' : Int) (h : (k == 4) = false) (w : World) :
    Calls Try.prog 67 #[.int .i64 o, .agg #[.int .i64 k, .int .u64 n, .int .i64 b], .agg #[.int .i64 4, .int .u64 n', .int .i64 0]] w fun e w' => e = .returned (.tuple #[.agg #[.int .i64 (noneL).1.1, .int .u64 (noneL).1.2.1, .int .i64 (noneL).1.2.2], .bool (noneL).2]) ∧ Fresh w w' := by
  go_enter Try.func67, Try.ntmps67
  go_wp2_with fail
  all_goals (try go_wp2_with ((go_at_call 73; refine (yes_any _ _).mono ?_; rintro e w1 ⟨rfl, h1⟩; obtain ⟨c1, f1⟩ := h1.cells)))
  all_goals go_light
  all_goals first | (refine bodyPost_ret (v := ?_) ?_ rfl ?_; rotate_left 1; focus (simp [results, Try.results67, go_sem, *]; (try rfl); done)) | go_returns
  all_goals exact ⟨ret_valok (by rfl), by (repeat' first | with_reducible exact Fresh.refl _ | with_reducible assumption | with_reducible refine Fresh.alloc ?_ _ _ | with_reducible refine Fresh.drew ?_ | with_reducible refine Fresh.setCell ?_ ?_ _ | with_reducible refine Fresh.trans ?_ (by assumption) | (simp; done) | (simp; omega))⟩
set_option maxRecDepth 100000 in
set_option maxHeartbeats 2000000 in
theorem rp_c3 (o n b n' b' : Int) (h : (b == 0) = false) (h' : (b' == 0) = false) (h2 : (b != b') = true) (w : World) :
    Calls Try.prog 67 #[.int .i64 o, .agg #[.int .i64 4, .int .u64 n, .int .i64 b], .agg #[.int .i64 4, .int .u64 n', .int .i64 b']] w fun e w' => e = .returned (.tuple #[.agg #[.int .i64 (noneL).1.1, .int .u64 (noneL).1.2.1, .int .i64 (noneL).1.2.2], .bool (noneL).2]) ∧ Fresh w w' := by
  go_enter Try.func67, Try.ntmps67
  go_wp2_with fail
  all_goals (try go_wp2_with ((go_at_call 73; refine (yes_any _ _).mono ?_; rintro e w1 ⟨rfl, h1⟩; obtain ⟨c1, f1⟩ := h1.cells)))
  all_goals go_light
  all_goals first | (refine bodyPost_ret (v := ?_) ?_ rfl ?_; rotate_left 1; focus (simp [results, Try.results67, go_sem, *]; (try rfl); done)) | go_returns
  all_goals exact ⟨ret_valok (by rfl), by (repeat' first | with_reducible exact Fresh.refl _ | with_reducible assumption | with_reducible refine Fresh.alloc ?_ _ _ | with_reducible refine Fresh.drew ?_ | with_reducible refine Fresh.setCell ?_ ?_ _ | with_reducible refine Fresh.trans ?_ (by assumption) | (simp; done) | (simp; omega))⟩
set_option maxRecDepth 100000 in
set_option maxHeartbeats 2000000 in
theorem rp_c4s (n n' b : Int) (h : (b == 0) = false) (w : World) :
    Calls Try.prog 67 #[.int .i64 4, .agg #[.int .i64 4, .int .u64 n, .int .i64 b], .agg #[.int .i64 4, .int .u64 n', .int .i64 b]] w fun e w' => e = .returned (.tuple #[.agg #[.int .i64 ((longL (wrap64 (wrap64 n - wrap64 n')), true)).1.1, .int .u64 ((longL (wrap64 (wrap64 n - wrap64 n')), true)).1.2.1, .int .i64 ((longL (wrap64 (wrap64 n - wrap64 n')), true)).1.2.2], .bool ((longL (wrap64 (wrap64 n - wrap64 n')), true)).2]) ∧ Fresh w w' := by
  go_enter Try.func67, Try.ntmps67
  go_wp2_with fail
  all_goals go_region_held3 (fun w' => w'.cell? ⟨w.heap.size, 0, none⟩ = some (.int .i64 4) ∧ w'.cell? ⟨w.heap.size, 1, none⟩ = some (.int .u64 n) ∧ w'.cell? ⟨w.heap.size, 2, none⟩ = some (.int .i64 b) ∧ w'.cell? ⟨w.heap.size + 1, 0, none⟩ = some (.int .i64 4) ∧ w'.cell? ⟨w.heap.size + 1, 1, none⟩ = some (.int .u64 n') ∧ w'.cell? ⟨w.heap.size + 1, 2, none⟩ = some (.int .i64 b))
    (simp [go_sem, *])
    (first | (go_at_call 70; refine (ri64_any _ _ _ _).mono ?_; rintro e w' ⟨rfl, rfl⟩) | (go_at_call 40; refine (rLong_any _ _).mono ?_; rintro e w1 ⟨rfl, h1⟩; obtain ⟨c1, f1⟩ := h1.cells))
  all_goals (try go_wp2_with ((go_at_call 73; refine (yes_any _ _).mono ?_; rintro e w1 ⟨rfl, h1⟩; obtain ⟨c1, f1⟩ := h1.cells)))
  all_goals go_light
  all_goals first | (refine bodyPost_ret (v := ?_) ?_ rfl ?_; rotate_left 1; focus (simp [results, Try.results67, go_sem, *]; (try rfl); done)) | go_returns
  all_goals exact ⟨by simp [IntWalk.i64_left], by (repeat' first | with_reducible exact Fresh.refl _ | with_reducible assumption | with_reducible refine Fresh.alloc ?_ _ _ | with_reducible refine Fresh.drew ?_ | with_reducible refine Fresh.setCell ?_ ?_ _ | with_reducible refine Fresh.trans ?_ (by assumption) | (simp; done) | (simp; omega))⟩
set_option maxRecDepth 100000 in
set_option maxHeartbeats 2000000 in
theorem rp_c4u (o n n' b : Int) (h : (b == 0) = false) (h1 : 22 ≤ o) (h2 : o ≤ 25) (ho4 : (o == 4) = false) (w : World) :
    Calls Try.prog 67 #[.int .i64 o, .agg #[.int .i64 4, .int .u64 n, .int .i64 b], .agg #[.int .i64 4, .int .u64 n', .int .i64 b]] w fun e w' => e = .returned (.tuple #[.agg #[.int .i64 (((1, flagL (comparedL o (decide (n < n')) (n == n')), 0), true)).1.1, .int .u64 (((1, flagL (comparedL o (decide (n < n')) (n == n')), 0), true)).1.2.1, .int .i64 (((1, flagL (comparedL o (decide (n < n')) (n == n')), 0), true)).1.2.2], .bool (((1, flagL (comparedL o (decide (n < n')) (n == n')), 0), true)).2]) ∧ Fresh w w' := by
  go_enter Try.func67, Try.ntmps67
  go_wp2_with fail
  all_goals (try go_wp2_with (first | (go_at_call 74; refine (compared_any _ _ _ _).mono ?_; rintro e w' ⟨rfl, rfl⟩) | (go_at_call 73; refine (yes_any _ _).mono ?_; rintro e w1 ⟨rfl, h1⟩; obtain ⟨c1, f1⟩ := h1.cells)))
  all_goals (try go_wp2_with ((go_at_call 73; refine (yes_any _ _).mono ?_; rintro e w1 ⟨rfl, h1⟩; obtain ⟨c1, f1⟩ := h1.cells)))
  all_goals go_light
  all_goals first | (refine bodyPost_ret (v := ?_) ?_ rfl ?_; rotate_left 1; focus (simp [results, Try.results67, go_sem, *]; (try rfl); done)) | go_returns
  all_goals exact ⟨ret_valok (by rfl), by (repeat' first | with_reducible exact Fresh.refl _ | with_reducible assumption | with_reducible refine Fresh.alloc ?_ _ _ | with_reducible refine Fresh.drew ?_ | with_reducible refine Fresh.setCell ?_ ?_ _ | with_reducible refine Fresh.trans ?_ (by assumption) | (simp; done) | (simp; omega))⟩
set_option maxRecDepth 100000 in
set_option maxHeartbeats 2000000 in
theorem rp_c4c (o n n' b : Int) (h : (b == 0) = false) (h1 : 16 ≤ o) (h2 : o ≤ 21) (ho4 : (o == 4) = false) (w : World) :
    Calls Try.prog 67 #[.int .i64 o, .agg #[.int .i64 4, .int .u64 n, .int .i64 b], .agg #[.int .i64 4, .int .u64 n', .int .i64 b]] w fun e w' => e = .returned (.tuple #[.agg #[.int .i64 (((1, flagL (comparedL o (decide (wrap64 n < wrap64 n')) (n == n')), 0), true)).1.1, .int .u64 (((1, flagL (comparedL o (decide (wrap64 n < wrap64 n')) (n == n')), 0), true)).1.2.1, .int .i64 (((1, flagL (comparedL o (decide (wrap64 n < wrap64 n')) (n == n')), 0), true)).1.2.2], .bool (((1, flagL (comparedL o (decide (wrap64 n < wrap64 n')) (n == n')), 0), true)).2]) ∧ Fresh w w' := by
  go_enter Try.func67, Try.ntmps67
  go_wp2_with fail
  all_goals go_region_held3 (fun w' => w'.cell? ⟨w.heap.size, 0, none⟩ = some (.int .i64 4) ∧ w'.cell? ⟨w.heap.size, 1, none⟩ = some (.int .u64 n) ∧ w'.cell? ⟨w.heap.size, 2, none⟩ = some (.int .i64 b) ∧ w'.cell? ⟨w.heap.size + 1, 0, none⟩ = some (.int .i64 4) ∧ w'.cell? ⟨w.heap.size + 1, 1, none⟩ = some (.int .u64 n') ∧ w'.cell? ⟨w.heap.size + 1, 2, none⟩ = some (.int .i64 b))
    (simp [go_sem, *])
    (first | (go_at_call 70; refine (ri64_any _ _ _ _).mono ?_; rintro e w' ⟨rfl, rfl⟩) | (go_at_call 74; refine (compared_any _ _ _ _).mono ?_; rintro e w' ⟨rfl, rfl⟩) | (go_at_call 73; refine (yes_any _ _).mono ?_; rintro e w1 ⟨rfl, h1⟩; obtain ⟨c1, f1⟩ := h1.cells))
  all_goals (try go_wp2_with ((go_at_call 73; refine (yes_any _ _).mono ?_; rintro e w1 ⟨rfl, h1⟩; obtain ⟨c1, f1⟩ := h1.cells)))
  all_goals go_light
  all_goals first | (refine bodyPost_ret (v := ?_) ?_ rfl ?_; rotate_left 1; focus (simp [results, Try.results67, go_sem, *]; (try rfl); done)) | go_returns
  all_goals exact ⟨ret_valok (by rfl), by (repeat' first | with_reducible exact Fresh.refl _ | with_reducible assumption | with_reducible refine Fresh.alloc ?_ _ _ | with_reducible refine Fresh.drew ?_ | with_reducible refine Fresh.setCell ?_ ?_ _ | with_reducible refine Fresh.trans ?_ (by assumption) | (simp; done) | (simp; omega))⟩
set_option maxRecDepth 100000 in
set_option maxHeartbeats 2000000 in
theorem rp_c4n (o n n' b : Int) (h : (b == 0) = false) (h2 : o < 16) (ho4 : (o == 4) = false) (w : World) :
    Calls Try.prog 67 #[.int .i64 o, .agg #[.int .i64 4, .int .u64 n, .int .i64 b], .agg #[.int .i64 4, .int .u64 n', .int .i64 b]] w fun e w' => e = .returned (.tuple #[.agg #[.int .i64 (noneL).1.1, .int .u64 (noneL).1.2.1, .int .i64 (noneL).1.2.2], .bool (noneL).2]) ∧ Fresh w w' := by
  go_enter Try.func67, Try.ntmps67
  go_wp2_with fail
  all_goals (try go_wp2_with ((go_at_call 73; refine (yes_any _ _).mono ?_; rintro e w1 ⟨rfl, h1⟩; obtain ⟨c1, f1⟩ := h1.cells)))
  all_goals go_light
  all_goals first | (refine bodyPost_ret (v := ?_) ?_ rfl ?_; rotate_left 1; focus (simp [results, Try.results67, go_sem, *]; (try rfl); done)) | go_returns
  all_goals exact ⟨ret_valok (by rfl), by (repeat' first | with_reducible exact Fresh.refl _ | with_reducible assumption | with_reducible refine Fresh.alloc ?_ _ _ | with_reducible refine Fresh.drew ?_ | with_reducible refine Fresh.setCell ?_ ?_ _ | with_reducible refine Fresh.trans ?_ (by assumption) | (simp; done) | (simp; omega))⟩
set_option maxRecDepth 100000 in
set_option maxHeartbeats 2000000 in
theorem rp_c5k (o n b k' n' b' : Int) (h : (b == 0) = false) (hk : (k' == 4) = false) (hk2 : (k' != 2) = true) (w : World) :
    Calls Try.prog 67 #[.int .i64 o, .agg #[.int .i64 4, .int .u64 n, .int .i64 b], .agg #[.int .i64 k', .int .u64 n', .int .i64 b']] w fun e w' => e = .returned (.tuple #[.agg #[.int .i64 (noneL).1.1, .int .u64 (noneL).1.2.1, .int .i64 (noneL).1.2.2], .bool (noneL).2]) ∧ Fresh w w' := by
  go_enter Try.func67, Try.ntmps67
  go_wp2_with fail
  all_goals go_region_held3 (fun w' => w'.cell? ⟨w.heap.size, 0, none⟩ = some (.int .i64 4) ∧ w'.cell? ⟨w.heap.size, 1, none⟩ = some (.int .u64 n) ∧ w'.cell? ⟨w.heap.size, 2, none⟩ = some (.int .i64 b) ∧ w'.cell? ⟨w.heap.size + 1, 0, none⟩ = some (.int .i64 k') ∧ w'.cell? ⟨w.heap.size + 1, 1, none⟩ = some (.int .u64 n') ∧ w'.cell? ⟨w.heap.size + 1, 2, none⟩ = some (.int .i64 b'))
    (simp [go_sem, *])
    (first | fail)
  all_goals (try go_wp2_with fail)
  all_goals (try go_wp2_with ((go_at_call 73; refine (yes_any _ _).mono ?_; rintro e w1 ⟨rfl, h1⟩; obtain ⟨c1, f1⟩ := h1.cells)))
  all_goals go_light
  all_goals first | (refine bodyPost_ret (v := ?_) ?_ rfl ?_; rotate_left 1; focus (simp [results, Try.results67, go_sem, *]; (try rfl); done)) | go_returns
  all_goals exact ⟨ret_valok (by rfl), by (repeat' first | with_reducible exact Fresh.refl _ | with_reducible assumption | with_reducible refine Fresh.alloc ?_ _ _ | with_reducible refine Fresh.drew ?_ | with_reducible refine Fresh.setCell ?_ ?_ _ | with_reducible refine Fresh.trans ?_ (by assumption) | (simp; done) | (simp; omega))⟩
set_option maxRecDepth 100000 in
set_option maxHeartbeats 2000000 in
theorem rp_c5a (n b n' b' : Int) (h : (b == 0) = false) (w : World) :
    Calls Try.prog 67 #[.int .i64 3, .agg #[.int .i64 4, .int .u64 n, .int .i64 b], .agg #[.int .i64 2, .int .u64 n', .int .i64 b']] w fun e w' => e = .returned (.tuple #[.agg #[.int .i64 ((ptrL b (wrap64 (wrap64 n + wrap64 n')), true)).1.1, .int .u64 ((ptrL b (wrap64 (wrap64 n + wrap64 n')), true)).1.2.1, .int .i64 ((ptrL b (wrap64 (wrap64 n + wrap64 n')), true)).1.2.2], .bool ((ptrL b (wrap64 (wrap64 n + wrap64 n')), true)).2]) ∧ Fresh w w' := by
  go_enter Try.func67, Try.ntmps67
  go_wp2_with fail
  all_goals go_region_held3 (fun w' => w'.cell? ⟨w.heap.size, 0, none⟩ = some (.int .i64 4) ∧ w'.cell? ⟨w.heap.size, 1, none⟩ = some (.int .u64 n) ∧ w'.cell? ⟨w.heap.size, 2, none⟩ = some (.int .i64 b) ∧ w'.cell? ⟨w.heap.size + 1, 0, none⟩ = some (.int .i64 2) ∧ w'.cell? ⟨w.heap.size + 1, 1, none⟩ = some (.int .u64 n') ∧ w'.cell? ⟨w.heap.size + 1, 2, none⟩ = some (.int .i64 b'))
    (simp [go_sem, *])
    (first | fail)
  all_goals (try go_wp2_with fail)
  all_goals first
    | (go_region_held3 (fun w' => w'.cell? ⟨w.heap.size + 1 + 1 + 1, 0, none⟩ = some (.int .i64 4) ∧ w'.cell? ⟨w.heap.size + 1 + 1 + 1, 1, none⟩ = some (.int .u64 n) ∧ w'.cell? ⟨w.heap.size + 1 + 1 + 1, 2, none⟩ = some (.int .i64 b) ∧ w'.cell? ⟨w.heap.size + 1 + 1 + 1 + 1, 0, none⟩ = some (.int .i64 2) ∧ w'.cell? ⟨w.heap.size + 1 + 1 + 1 + 1, 1, none⟩ = some (.int .u64 n') ∧ w'.cell? ⟨w.heap.size + 1 + 1 + 1 + 1, 2, none⟩ = some (.int .i64 b'))
        (simp [go_sem, *])
        (first | (go_at_call 70; refine (ri64_any _ _ _ _).mono ?_; rintro e w' ⟨rfl, rfl⟩) | (go_at_call 94; refine (rPtr_any _ _ _).mono ?_; rintro e w1 ⟨rfl, h1⟩; obtain ⟨c1, f1⟩ := h1.cells)))
    | (go_region_held3 (fun w' => w'.cell? ⟨w.heap.size + 1 + 1 + 1 + 1, 0, none⟩ = some (.int .i64 4) ∧ w'.cell? ⟨w.heap.size + 1 + 1 + 1 + 1, 1, none⟩ = some (.int .u64 n) ∧ w'.cell? ⟨w.heap.size + 1 + 1 + 1 + 1, 2, none⟩ = some (.int .i64 b) ∧ w'.cell? ⟨w.heap.size + 1 + 1 + 1, 0, none⟩ = some (.int .i64 2) ∧ w'.cell? ⟨w.heap.size + 1 + 1 + 1, 1, none⟩ = some (.int .u64 n') ∧ w'.cell? ⟨w.heap.size + 1 + 1 + 1, 2, none⟩ = some (.int .i64 b'))
        (simp [go_sem, *])
        (first | (go_at_call 70; refine (ri64_any _ _ _ _).mono ?_; rintro e w' ⟨rfl, rfl⟩) | (go_at_call 94; refine (rPtr_any _ _ _).mono ?_; rintro e w1 ⟨rfl, h1⟩; obtain ⟨c1, f1⟩ := h1.cells)))
  all_goals (try go_wp2_with ((go_at_call 73; refine (yes_any _ _).mono ?_; rintro e w1 ⟨rfl, h1⟩; obtain ⟨c1, f1⟩ := h1.cells)))
  all_goals go_light
  all_goals first | (refine bodyPost_ret (v := ?_) ?_ rfl ?_; rotate_left 1; focus (simp [results, Try.results67, go_sem, *]; (try rfl); done)) | go_returns
  all_goals exact ⟨by simp [IntWalk.i64_left], by (repeat' first | with_reducible exact Fresh.refl _ | with_reducible assumption | with_reducible refine Fresh.alloc ?_ _ _ | with_reducible refine Fresh.drew ?_ | with_reducible refine Fresh.setCell ?_ ?_ _ | with_reducible refine Fresh.trans ?_ (by assumption) | (simp; done) | (simp; omega))⟩
set_option maxRecDepth 100000 in
set_option maxHeartbeats 2000000 in
theorem rp_c5s (n b n' b' : Int) (h : (b == 0) = false) (w : World) :
    Calls Try.prog 67 #[.int .i64 4, .agg #[.int .i64 4, .int .u64 n, .int .i64 b], .agg #[.int .i64 2, .int .u64 n', .int .i64 b']] w fun e w' => e = .returned (.tuple #[.agg #[.int .i64 ((ptrL b (wrap64 (wrap64 n - wrap64 n')), true)).1.1, .int .u64 ((ptrL b (wrap64 (wrap64 n - wrap64 n')), true)).1.2.1, .int .i64 ((ptrL b (wrap64 (wrap64 n - wrap64 n')), true)).1.2.2], .bool ((ptrL b (wrap64 (wrap64 n - wrap64 n')), true)).2]) ∧ Fresh w w' := by
  go_enter Try.func67, Try.ntmps67
  go_wp2_with fail
  all_goals go_region_held3 (fun w' => w'.cell? ⟨w.heap.size, 0, none⟩ = some (.int .i64 4) ∧ w'.cell? ⟨w.heap.size, 1, none⟩ = some (.int .u64 n) ∧ w'.cell? ⟨w.heap.size, 2, none⟩ = some (.int .i64 b) ∧ w'.cell? ⟨w.heap.size + 1, 0, none⟩ = some (.int .i64 2) ∧ w'.cell? ⟨w.heap.size + 1, 1, none⟩ = some (.int .u64 n') ∧ w'.cell? ⟨w.heap.size + 1, 2, none⟩ = some (.int .i64 b'))
    (simp [go_sem, *])
    (first | fail)
  all_goals (try go_wp2_with fail)
  all_goals first
    | (go_region_held3 (fun w' => w'.cell? ⟨w.heap.size + 1 + 1 + 1, 0, none⟩ = some (.int .i64 4) ∧ w'.cell? ⟨w.heap.size + 1 + 1 + 1, 1, none⟩ = some (.int .u64 n) ∧ w'.cell? ⟨w.heap.size + 1 + 1 + 1, 2, none⟩ = some (.int .i64 b) ∧ w'.cell? ⟨w.heap.size + 1 + 1 + 1 + 1, 0, none⟩ = some (.int .i64 2) ∧ w'.cell? ⟨w.heap.size + 1 + 1 + 1 + 1, 1, none⟩ = some (.int .u64 n') ∧ w'.cell? ⟨w.heap.size + 1 + 1 + 1 + 1, 2, none⟩ = some (.int .i64 b'))
        (simp [go_sem, *])
        (first | (go_at_call 70; refine (ri64_any _ _ _ _).mono ?_; rintro e w' ⟨rfl, rfl⟩) | (go_at_call 94; refine (rPtr_any _ _ _).mono ?_; rintro e w1 ⟨rfl, h1⟩; obtain ⟨c1, f1⟩ := h1.cells)))
    | (go_region_held3 (fun w' => w'.cell? ⟨w.heap.size + 1 + 1 + 1 + 1, 0, none⟩ = some (.int .i64 4) ∧ w'.cell? ⟨w.heap.size + 1 + 1 + 1 + 1, 1, none⟩ = some (.int .u64 n) ∧ w'.cell? ⟨w.heap.size + 1 + 1 + 1 + 1, 2, none⟩ = some (.int .i64 b) ∧ w'.cell? ⟨w.heap.size + 1 + 1 + 1, 0, none⟩ = some (.int .i64 2) ∧ w'.cell? ⟨w.heap.size + 1 + 1 + 1, 1, none⟩ = some (.int .u64 n') ∧ w'.cell? ⟨w.heap.size + 1 + 1 + 1, 2, none⟩ = some (.int .i64 b'))
        (simp [go_sem, *])
        (first | (go_at_call 70; refine (ri64_any _ _ _ _).mono ?_; rintro e w' ⟨rfl, rfl⟩) | (go_at_call 94; refine (rPtr_any _ _ _).mono ?_; rintro e w1 ⟨rfl, h1⟩; obtain ⟨c1, f1⟩ := h1.cells)))
  all_goals (try go_wp2_with ((go_at_call 73; refine (yes_any _ _).mono ?_; rintro e w1 ⟨rfl, h1⟩; obtain ⟨c1, f1⟩ := h1.cells)))
  all_goals go_light
  all_goals first | (refine bodyPost_ret (v := ?_) ?_ rfl ?_; rotate_left 1; focus (simp [results, Try.results67, go_sem, *]; (try rfl); done)) | go_returns
  all_goals exact ⟨by simp [IntWalk.i64_left], by (repeat' first | with_reducible exact Fresh.refl _ | with_reducible assumption | with_reducible refine Fresh.alloc ?_ _ _ | with_reducible refine Fresh.drew ?_ | with_reducible refine Fresh.setCell ?_ ?_ _ | with_reducible refine Fresh.trans ?_ (by assumption) | (simp; done) | (simp; omega))⟩
set_option maxRecDepth 100000 in
set_option maxHeartbeats 2000000 in
theorem rp_c5e16 (n b b' : Int) (h : (b == 0) = false) (w : World) :
    Calls Try.prog 67 #[.int .i64 16, .agg #[.int .i64 4, .int .u64 n, .int .i64 b], .agg #[.int .i64 2, .int .u64 0, .int .i64 b']] w fun e w' => e = .returned (.tuple #[.agg #[.int .i64 (((1, 0, 0), true)).1.1, .int .u64 (((1, 0, 0), true)).1.2.1, .int .i64 (((1, 0, 0), true)).1.2.2], .bool (((1, 0, 0), true)).2]) ∧ Fresh w w' := by
  go_enter Try.func67, Try.ntmps67
  go_wp2_with fail
  all_goals go_region_held3 (fun w' => w'.cell? ⟨w.heap.size, 0, none⟩ = some (.int .i64 4) ∧ w'.cell? ⟨w.heap.size, 1, none⟩ = some (.int .u64 n) ∧ w'.cell? ⟨w.heap.size, 2, none⟩ = some (.int .i64 b) ∧ w'.cell? ⟨w.heap.size + 1, 0, none⟩ = some (.int .i64 2) ∧ w'.cell? ⟨w.heap.size + 1, 1, none⟩ = some (.int .u64 0) ∧ w'.cell? ⟨w.heap.size + 1, 2, none⟩ = some (.int .i64 b'))
    (simp [go_sem, *])
    (first | fail)
  all_goals (try go_wp2_with ((go_at_call 73; refine (yes_any _ _).mono ?_; rintro e w1 ⟨rfl, h1⟩; obtain ⟨c1, f1⟩ := h1.cells)))
  all_goals go_light
  all_goals first | (refine bodyPost_ret (v := ?_) ?_ rfl ?_; rotate_left 1; focus (simp [results, Try.results67, go_sem, *]; (try rfl); done)) | go_returns
  all_goals exact ⟨ret_valok (by rfl), by (repeat' first | with_reducible exact Fresh.refl _ | with_reducible assumption | with_reducible refine Fresh.alloc ?_ _ _ | with_reducible refine Fresh.drew ?_ | with_reducible refine Fresh.setCell ?_ ?_ _ | with_reducible refine Fresh.trans ?_ (by assumption) | (simp; done) | (simp; omega))⟩
set_option maxRecDepth 100000 in
set_option maxHeartbeats 2000000 in
theorem rp_c5f16 (n b n' b' : Int) (h : (b == 0) = false) (hn : (n' == 0) = false) (w : World) :
    Calls Try.prog 67 #[.int .i64 16, .agg #[.int .i64 4, .int .u64 n, .int .i64 b], .agg #[.int .i64 2, .int .u64 n', .int .i64 b']] w fun e w' => e = .returned (.tuple #[.agg #[.int .i64 (noneL).1.1, .int .u64 (noneL).1.2.1, .int .i64 (noneL).1.2.2], .bool (noneL).2]) ∧ Fresh w w' := by
  go_enter Try.func67, Try.ntmps67
  go_wp2_with fail
  all_goals go_region_held3 (fun w' => w'.cell? ⟨w.heap.size, 0, none⟩ = some (.int .i64 4) ∧ w'.cell? ⟨w.heap.size, 1, none⟩ = some (.int .u64 n) ∧ w'.cell? ⟨w.heap.size, 2, none⟩ = some (.int .i64 b) ∧ w'.cell? ⟨w.heap.size + 1, 0, none⟩ = some (.int .i64 2) ∧ w'.cell? ⟨w.heap.size + 1, 1, none⟩ = some (.int .u64 n') ∧ w'.cell? ⟨w.heap.size + 1, 2, none⟩ = some (.int .i64 b'))
    (simp [go_sem, *])
    (first | fail)
  all_goals (try go_wp2_with ((go_at_call 73; refine (yes_any _ _).mono ?_; rintro e w1 ⟨rfl, h1⟩; obtain ⟨c1, f1⟩ := h1.cells)))
  all_goals go_light
  all_goals first | (refine bodyPost_ret (v := ?_) ?_ rfl ?_; rotate_left 1; focus (simp [results, Try.results67, go_sem, *]; (try rfl); done)) | go_returns
  all_goals exact ⟨ret_valok (by rfl), by (repeat' first | with_reducible exact Fresh.refl _ | with_reducible assumption | with_reducible refine Fresh.alloc ?_ _ _ | with_reducible refine Fresh.drew ?_ | with_reducible refine Fresh.setCell ?_ ?_ _ | with_reducible refine Fresh.trans ?_ (by assumption) | (simp; done) | (simp; omega))⟩
set_option maxRecDepth 100000 in
set_option maxHeartbeats 2000000 in
theorem rp_c5e17 (n b b' : Int) (h : (b == 0) = false) (w : World) :
    Calls Try.prog 67 #[.int .i64 17, .agg #[.int .i64 4, .int .u64 n, .int .i64 b], .agg #[.int .i64 2, .int .u64 0, .int .i64 b']] w fun e w' => e = .returned (.tuple #[.agg #[.int .i64 (((1, 1, 0), true)).1.1, .int .u64 (((1, 1, 0), true)).1.2.1, .int .i64 (((1, 1, 0), true)).1.2.2], .bool (((1, 1, 0), true)).2]) ∧ Fresh w w' := by
  go_enter Try.func67, Try.ntmps67
  go_wp2_with fail
  all_goals go_region_held3 (fun w' => w'.cell? ⟨w.heap.size, 0, none⟩ = some (.int .i64 4) ∧ w'.cell? ⟨w.heap.size, 1, none⟩ = some (.int .u64 n) ∧ w'.cell? ⟨w.heap.size, 2, none⟩ = some (.int .i64 b) ∧ w'.cell? ⟨w.heap.size + 1, 0, none⟩ = some (.int .i64 2) ∧ w'.cell? ⟨w.heap.size + 1, 1, none⟩ = some (.int .u64 0) ∧ w'.cell? ⟨w.heap.size + 1, 2, none⟩ = some (.int .i64 b'))
    (simp [go_sem, *])
    (first | fail)
  all_goals (try go_wp2_with ((go_at_call 73; refine (yes_any _ _).mono ?_; rintro e w1 ⟨rfl, h1⟩; obtain ⟨c1, f1⟩ := h1.cells)))
  all_goals go_light
  all_goals first | (refine bodyPost_ret (v := ?_) ?_ rfl ?_; rotate_left 1; focus (simp [results, Try.results67, go_sem, *]; (try rfl); done)) | go_returns
  all_goals exact ⟨ret_valok (by rfl), by (repeat' first | with_reducible exact Fresh.refl _ | with_reducible assumption | with_reducible refine Fresh.alloc ?_ _ _ | with_reducible refine Fresh.drew ?_ | with_reducible refine Fresh.setCell ?_ ?_ _ | with_reducible refine Fresh.trans ?_ (by assumption) | (simp; done) | (simp; omega))⟩
set_option maxRecDepth 100000 in
set_option maxHeartbeats 2000000 in
theorem rp_c5f17 (n b n' b' : Int) (h : (b == 0) = false) (hn : (n' == 0) = false) (w : World) :
    Calls Try.prog 67 #[.int .i64 17, .agg #[.int .i64 4, .int .u64 n, .int .i64 b], .agg #[.int .i64 2, .int .u64 n', .int .i64 b']] w fun e w' => e = .returned (.tuple #[.agg #[.int .i64 (noneL).1.1, .int .u64 (noneL).1.2.1, .int .i64 (noneL).1.2.2], .bool (noneL).2]) ∧ Fresh w w' := by
  go_enter Try.func67, Try.ntmps67
  go_wp2_with fail
  all_goals go_region_held3 (fun w' => w'.cell? ⟨w.heap.size, 0, none⟩ = some (.int .i64 4) ∧ w'.cell? ⟨w.heap.size, 1, none⟩ = some (.int .u64 n) ∧ w'.cell? ⟨w.heap.size, 2, none⟩ = some (.int .i64 b) ∧ w'.cell? ⟨w.heap.size + 1, 0, none⟩ = some (.int .i64 2) ∧ w'.cell? ⟨w.heap.size + 1, 1, none⟩ = some (.int .u64 n') ∧ w'.cell? ⟨w.heap.size + 1, 2, none⟩ = some (.int .i64 b'))
    (simp [go_sem, *])
    (first | fail)
  all_goals (try go_wp2_with ((go_at_call 73; refine (yes_any _ _).mono ?_; rintro e w1 ⟨rfl, h1⟩; obtain ⟨c1, f1⟩ := h1.cells)))
  all_goals go_light
  all_goals first | (refine bodyPost_ret (v := ?_) ?_ rfl ?_; rotate_left 1; focus (simp [results, Try.results67, go_sem, *]; (try rfl); done)) | go_returns
  all_goals exact ⟨ret_valok (by rfl), by (repeat' first | with_reducible exact Fresh.refl _ | with_reducible assumption | with_reducible refine Fresh.alloc ?_ _ _ | with_reducible refine Fresh.drew ?_ | with_reducible refine Fresh.setCell ?_ ?_ _ | with_reducible refine Fresh.trans ?_ (by assumption) | (simp; done) | (simp; omega))⟩
set_option maxRecDepth 100000 in
set_option maxHeartbeats 2000000 in
theorem rp_c5n (o n b n' b' : Int) (h : (b == 0) = false) (h3 : (o == 3) = false) (h4 : (o == 4) = false) (h16 : (o == 16) = false) (h17 : (o == 17) = false) (w : World) :
    Calls Try.prog 67 #[.int .i64 o, .agg #[.int .i64 4, .int .u64 n, .int .i64 b], .agg #[.int .i64 2, .int .u64 n', .int .i64 b']] w fun e w' => e = .returned (.tuple #[.agg #[.int .i64 (noneL).1.1, .int .u64 (noneL).1.2.1, .int .i64 (noneL).1.2.2], .bool (noneL).2]) ∧ Fresh w w' := by
  go_enter Try.func67, Try.ntmps67
  go_wp2_with fail
  all_goals go_region_held3 (fun w' => w'.cell? ⟨w.heap.size, 0, none⟩ = some (.int .i64 4) ∧ w'.cell? ⟨w.heap.size, 1, none⟩ = some (.int .u64 n) ∧ w'.cell? ⟨w.heap.size, 2, none⟩ = some (.int .i64 b) ∧ w'.cell? ⟨w.heap.size + 1, 0, none⟩ = some (.int .i64 2) ∧ w'.cell? ⟨w.heap.size + 1, 1, none⟩ = some (.int .u64 n') ∧ w'.cell? ⟨w.heap.size + 1, 2, none⟩ = some (.int .i64 b'))
    (simp [go_sem, *])
    (first | fail)
  all_goals (try go_wp2_with ((go_at_call 73; refine (yes_any _ _).mono ?_; rintro e w1 ⟨rfl, h1⟩; obtain ⟨c1, f1⟩ := h1.cells)))
  all_goals go_light
  all_goals first | (refine bodyPost_ret (v := ?_) ?_ rfl ?_; rotate_left 1; focus (simp [results, Try.results67, go_sem, *]; (try rfl); done)) | go_returns
  all_goals exact ⟨ret_valok (by rfl), by (repeat' first | with_reducible exact Fresh.refl _ | with_reducible assumption | with_reducible refine Fresh.alloc ?_ _ _ | with_reducible refine Fresh.drew ?_ | with_reducible refine Fresh.setCell ?_ ?_ _ | with_reducible refine Fresh.trans ?_ (by assumption) | (simp; done) | (simp; omega))⟩
end Go.Proofs.Ytjbflmpnmobngaa.two
/- What the document's own answer gives of two operands, the second a pointer and the first none. -/
namespace Go.Proofs.Ytjbflmpnmobngaa.two
set_option linter.unusedSimpArgs false
set_option linter.unusedVariables false
open Go.RowKit
set_option maxRecDepth 100000 in
set_option maxHeartbeats 2000000 in
theorem rp_c6k (o k n b n' b' : Int) (h : (b' == 0) = false) (hk : (k == 4) = false) (hk2 : (k != 2) = true) (w : World) :
    Calls Try.prog 67 #[.int .i64 o, .agg #[.int .i64 k, .int .u64 n, .int .i64 b], .agg #[.int .i64 4, .int .u64 n', .int .i64 b']] w fun e w' => e = .returned (.tuple #[.agg #[.int .i64 (noneL).1.1, .int .u64 (noneL).1.2.1, .int .i64 (noneL).1.2.2], .bool (noneL).2]) ∧ Fresh w w' := by
  go_enter Try.func67, Try.ntmps67
  go_wp2_with fail
  all_goals go_region_held3 (fun w' => w'.cell? ⟨w.heap.size, 0, none⟩ = some (.int .i64 k) ∧ w'.cell? ⟨w.heap.size, 1, none⟩ = some (.int .u64 n) ∧ w'.cell? ⟨w.heap.size, 2, none⟩ = some (.int .i64 b) ∧ w'.cell? ⟨w.heap.size + 1, 0, none⟩ = some (.int .i64 4) ∧ w'.cell? ⟨w.heap.size + 1, 1, none⟩ = some (.int .u64 n') ∧ w'.cell? ⟨w.heap.size + 1, 2, none⟩ = some (.int .i64 b'))
    (simp [go_sem, *])
    (first | fail)
  all_goals (try go_wp2_with fail)
  all_goals go_region_held3 (fun w' => w'.cell? ⟨w.heap.size, 0, none⟩ = some (.int .i64 k) ∧ w'.cell? ⟨w.heap.size, 1, none⟩ = some (.int .u64 n) ∧ w'.cell? ⟨w.heap.size, 2, none⟩ = some (.int .i64 b) ∧ w'.cell? ⟨w.heap.size + 1, 0, none⟩ = some (.int .i64 4) ∧ w'.cell? ⟨w.heap.size + 1, 1, none⟩ = some (.int .u64 n') ∧ w'.cell? ⟨w.heap.size + 1, 2, none⟩ = some (.int .i64 b'))
    (simp [go_sem, *])
    (first | fail)
  all_goals (try go_wp2_with fail)
  all_goals (try go_wp2_with ((go_at_call 73; refine (yes_any _ _).mono ?_; rintro e w1 ⟨rfl, h1⟩; obtain ⟨c1, f1⟩ := h1.cells)))
  all_goals go_light
  all_goals first | (refine bodyPost_ret (v := ?_) ?_ rfl ?_; rotate_left 1; focus (simp [results, Try.results67, go_sem, *]; (try rfl); done)) | go_returns
  all_goals exact ⟨ret_valok (by rfl), by (repeat' first | with_reducible exact Fresh.refl _ | with_reducible assumption | with_reducible refine Fresh.alloc ?_ _ _ | with_reducible refine Fresh.drew ?_ | with_reducible refine Fresh.setCell ?_ ?_ _ | with_reducible refine Fresh.trans ?_ (by assumption) | (simp; done) | (simp; omega))⟩
set_option maxRecDepth 100000 in
set_option maxHeartbeats 2000000 in
theorem rp_c6a (n b n' b' : Int) (h : (b' == 0) = false) (w : World) :
    Calls Try.prog 67 #[.int .i64 3, .agg #[.int .i64 2, .int .u64 n, .int .i64 b], .agg #[.int .i64 4, .int .u64 n', .int .i64 b']] w fun e w' => e = .returned (.tuple #[.agg #[.int .i64 ((ptrL b' (wrap64 (wrap64 n' + wrap64 n)), true)).1.1, .int .u64 ((ptrL b' (wrap64 (wrap64 n' + wrap64 n)), true)).1.2.1, .int .i64 ((ptrL b' (wrap64 (wrap64 n' + wrap64 n)), true)).1.2.2], .bool ((ptrL b' (wrap64 (wrap64 n' + wrap64 n)), true)).2]) ∧ Fresh w w' := by
  go_enter Try.func67, Try.ntmps67
  go_wp2_with fail
  all_goals go_region_held3 (fun w' => w'.cell? ⟨w.heap.size, 0, none⟩ = some (.int .i64 2) ∧ w'.cell? ⟨w.heap.size, 1, none⟩ = some (.int .u64 n) ∧ w'.cell? ⟨w.heap.size, 2, none⟩ = some (.int .i64 b) ∧ w'.cell? ⟨w.heap.size + 1, 0, none⟩ = some (.int .i64 4) ∧ w'.cell? ⟨w.heap.size + 1, 1, none⟩ = some (.int .u64 n') ∧ w'.cell? ⟨w.heap.size + 1, 2, none⟩ = some (.int .i64 b'))
    (simp [go_sem, *])
    (first | fail)
  all_goals (try go_wp2_with fail)
  all_goals go_region_held3 (fun w' => w'.cell? ⟨w.heap.size, 0, none⟩ = some (.int .i64 2) ∧ w'.cell? ⟨w.heap.size, 1, none⟩ = some (.int .u64 n) ∧ w'.cell? ⟨w.heap.size, 2, none⟩ = some (.int .i64 b) ∧ w'.cell? ⟨w.heap.size + 1, 0, none⟩ = some (.int .i64 4) ∧ w'.cell? ⟨w.heap.size + 1, 1, none⟩ = some (.int .u64 n') ∧ w'.cell? ⟨w.heap.size + 1, 2, none⟩ = some (.int .i64 b'))
    (simp [go_sem, *])
    (first | fail)
  all_goals (try go_wp2_with fail)
  all_goals first
    | (go_region_held3 (fun w' => w'.cell? ⟨w.heap.size + 1 + 1 + 1, 0, none⟩ = some (.int .i64 4) ∧ w'.cell? ⟨w.heap.size + 1 + 1 + 1, 1, none⟩ = some (.int .u64 n') ∧ w'.cell? ⟨w.heap.size + 1 + 1 + 1, 2, none⟩ = some (.int .i64 b') ∧ w'.cell? ⟨w.heap.size + 1 + 1 + 1 + 1, 0, none⟩ = some (.int .i64 2) ∧ w'.cell? ⟨w.heap.size + 1 + 1 + 1 + 1, 1, none⟩ = some (.int .u64 n) ∧ w'.cell? ⟨w.heap.size + 1 + 1 + 1 + 1, 2, none⟩ = some (.int .i64 b))
        (simp [go_sem, *])
        (first | (go_at_call 70; refine (ri64_any _ _ _ _).mono ?_; rintro e w' ⟨rfl, rfl⟩) | (go_at_call 94; refine (rPtr_any _ _ _).mono ?_; rintro e w1 ⟨rfl, h1⟩; obtain ⟨c1, f1⟩ := h1.cells)))
    | (go_region_held3 (fun w' => w'.cell? ⟨w.heap.size + 1 + 1 + 1 + 1, 0, none⟩ = some (.int .i64 4) ∧ w'.cell? ⟨w.heap.size + 1 + 1 + 1 + 1, 1, none⟩ = some (.int .u64 n') ∧ w'.cell? ⟨w.heap.size + 1 + 1 + 1 + 1, 2, none⟩ = some (.int .i64 b') ∧ w'.cell? ⟨w.heap.size + 1 + 1 + 1, 0, none⟩ = some (.int .i64 2) ∧ w'.cell? ⟨w.heap.size + 1 + 1 + 1, 1, none⟩ = some (.int .u64 n) ∧ w'.cell? ⟨w.heap.size + 1 + 1 + 1, 2, none⟩ = some (.int .i64 b))
        (simp [go_sem, *])
        (first | (go_at_call 70; refine (ri64_any _ _ _ _).mono ?_; rintro e w' ⟨rfl, rfl⟩) | (go_at_call 94; refine (rPtr_any _ _ _).mono ?_; rintro e w1 ⟨rfl, h1⟩; obtain ⟨c1, f1⟩ := h1.cells)))
  all_goals (try go_wp2_with ((go_at_call 73; refine (yes_any _ _).mono ?_; rintro e w1 ⟨rfl, h1⟩; obtain ⟨c1, f1⟩ := h1.cells)))
  all_goals go_light
  all_goals first | (refine bodyPost_ret (v := ?_) ?_ rfl ?_; rotate_left 1; focus (simp [results, Try.results67, go_sem, *]; (try rfl); done)) | go_returns
  all_goals exact ⟨by simp [IntWalk.i64_left], by (repeat' first | with_reducible exact Fresh.refl _ | with_reducible assumption | with_reducible refine Fresh.alloc ?_ _ _ | with_reducible refine Fresh.drew ?_ | with_reducible refine Fresh.setCell ?_ ?_ _ | with_reducible refine Fresh.trans ?_ (by assumption) | (simp; done) | (simp; omega))⟩
set_option maxRecDepth 100000 in
set_option maxHeartbeats 2000000 in
theorem rp_c6e16 (b n' b' : Int) (h : (b' == 0) = false) (w : World) :
    Calls Try.prog 67 #[.int .i64 16, .agg #[.int .i64 2, .int .u64 0, .int .i64 b], .agg #[.int .i64 4, .int .u64 n', .int .i64 b']] w fun e w' => e = .returned (.tuple #[.agg #[.int .i64 (((1, 0, 0), true)).1.1, .int .u64 (((1, 0, 0), true)).1.2.1, .int .i64 (((1, 0, 0), true)).1.2.2], .bool (((1, 0, 0), true)).2]) ∧ Fresh w w' := by
  go_enter Try.func67, Try.ntmps67
  go_wp2_with fail
  all_goals go_region_held3 (fun w' => w'.cell? ⟨w.heap.size, 0, none⟩ = some (.int .i64 2) ∧ w'.cell? ⟨w.heap.size, 1, none⟩ = some (.int .u64 0) ∧ w'.cell? ⟨w.heap.size, 2, none⟩ = some (.int .i64 b) ∧ w'.cell? ⟨w.heap.size + 1, 0, none⟩ = some (.int .i64 4) ∧ w'.cell? ⟨w.heap.size + 1, 1, none⟩ = some (.int .u64 n') ∧ w'.cell? ⟨w.heap.size + 1, 2, none⟩ = some (.int .i64 b'))
    (simp [go_sem, *])
    (first | fail)
  all_goals (try go_wp2_with fail)
  all_goals go_region_held3 (fun w' => w'.cell? ⟨w.heap.size, 0, none⟩ = some (.int .i64 2) ∧ w'.cell? ⟨w.heap.size, 1, none⟩ = some (.int .u64 0) ∧ w'.cell? ⟨w.heap.size, 2, none⟩ = some (.int .i64 b) ∧ w'.cell? ⟨w.heap.size + 1, 0, none⟩ = some (.int .i64 4) ∧ w'.cell? ⟨w.heap.size + 1, 1, none⟩ = some (.int .u64 n') ∧ w'.cell? ⟨w.heap.size + 1, 2, none⟩ = some (.int .i64 b'))
    (simp [go_sem, *])
    (first | fail)
  all_goals (try go_wp2_with ((go_at_call 73; refine (yes_any _ _).mono ?_; rintro e w1 ⟨rfl, h1⟩; obtain ⟨c1, f1⟩ := h1.cells)))
  all_goals go_light
  all_goals first | (refine bodyPost_ret (v := ?_) ?_ rfl ?_; rotate_left 1; focus (simp [results, Try.results67, go_sem, *]; (try rfl); done)) | go_returns
  all_goals exact ⟨ret_valok (by rfl), by (repeat' first | with_reducible exact Fresh.refl _ | with_reducible assumption | with_reducible refine Fresh.alloc ?_ _ _ | with_reducible refine Fresh.drew ?_ | with_reducible refine Fresh.setCell ?_ ?_ _ | with_reducible refine Fresh.trans ?_ (by assumption) | (simp; done) | (simp; omega))⟩
set_option maxRecDepth 100000 in
set_option maxHeartbeats 2000000 in
theorem rp_c6f16 (n b n' b' : Int) (h : (b' == 0) = false) (hn : (n == 0) = false) (w : World) :
    Calls Try.prog 67 #[.int .i64 16, .agg #[.int .i64 2, .int .u64 n, .int .i64 b], .agg #[.int .i64 4, .int .u64 n', .int .i64 b']] w fun e w' => e = .returned (.tuple #[.agg #[.int .i64 (noneL).1.1, .int .u64 (noneL).1.2.1, .int .i64 (noneL).1.2.2], .bool (noneL).2]) ∧ Fresh w w' := by
  go_enter Try.func67, Try.ntmps67
  go_wp2_with fail
  all_goals go_region_held3 (fun w' => w'.cell? ⟨w.heap.size, 0, none⟩ = some (.int .i64 2) ∧ w'.cell? ⟨w.heap.size, 1, none⟩ = some (.int .u64 n) ∧ w'.cell? ⟨w.heap.size, 2, none⟩ = some (.int .i64 b) ∧ w'.cell? ⟨w.heap.size + 1, 0, none⟩ = some (.int .i64 4) ∧ w'.cell? ⟨w.heap.size + 1, 1, none⟩ = some (.int .u64 n') ∧ w'.cell? ⟨w.heap.size + 1, 2, none⟩ = some (.int .i64 b'))
    (simp [go_sem, *])
    (first | fail)
  all_goals (try go_wp2_with fail)
  all_goals go_region_held3 (fun w' => w'.cell? ⟨w.heap.size, 0, none⟩ = some (.int .i64 2) ∧ w'.cell? ⟨w.heap.size, 1, none⟩ = some (.int .u64 n) ∧ w'.cell? ⟨w.heap.size, 2, none⟩ = some (.int .i64 b) ∧ w'.cell? ⟨w.heap.size + 1, 0, none⟩ = some (.int .i64 4) ∧ w'.cell? ⟨w.heap.size + 1, 1, none⟩ = some (.int .u64 n') ∧ w'.cell? ⟨w.heap.size + 1, 2, none⟩ = some (.int .i64 b'))
    (simp [go_sem, *])
    (first | fail)
  all_goals (try go_wp2_with fail)
  all_goals (try go_wp2_with ((go_at_call 73; refine (yes_any _ _).mono ?_; rintro e w1 ⟨rfl, h1⟩; obtain ⟨c1, f1⟩ := h1.cells)))
  all_goals go_light
  all_goals first | (refine bodyPost_ret (v := ?_) ?_ rfl ?_; rotate_left 1; focus (simp [results, Try.results67, go_sem, *]; (try rfl); done)) | go_returns
  all_goals exact ⟨ret_valok (by rfl), by (repeat' first | with_reducible exact Fresh.refl _ | with_reducible assumption | with_reducible refine Fresh.alloc ?_ _ _ | with_reducible refine Fresh.drew ?_ | with_reducible refine Fresh.setCell ?_ ?_ _ | with_reducible refine Fresh.trans ?_ (by assumption) | (simp; done) | (simp; omega))⟩
set_option maxRecDepth 100000 in
set_option maxHeartbeats 2000000 in
theorem rp_c6e17 (b n' b' : Int) (h : (b' == 0) = false) (w : World) :
    Calls Try.prog 67 #[.int .i64 17, .agg #[.int .i64 2, .int .u64 0, .int .i64 b], .agg #[.int .i64 4, .int .u64 n', .int .i64 b']] w fun e w' => e = .returned (.tuple #[.agg #[.int .i64 (((1, 1, 0), true)).1.1, .int .u64 (((1, 1, 0), true)).1.2.1, .int .i64 (((1, 1, 0), true)).1.2.2], .bool (((1, 1, 0), true)).2]) ∧ Fresh w w' := by
  go_enter Try.func67, Try.ntmps67
  go_wp2_with fail
  all_goals go_region_held3 (fun w' => w'.cell? ⟨w.heap.size, 0, none⟩ = some (.int .i64 2) ∧ w'.cell? ⟨w.heap.size, 1, none⟩ = some (.int .u64 0) ∧ w'.cell? ⟨w.heap.size, 2, none⟩ = some (.int .i64 b) ∧ w'.cell? ⟨w.heap.size + 1, 0, none⟩ = some (.int .i64 4) ∧ w'.cell? ⟨w.heap.size + 1, 1, none⟩ = some (.int .u64 n') ∧ w'.cell? ⟨w.heap.size + 1, 2, none⟩ = some (.int .i64 b'))
    (simp [go_sem, *])
    (first | fail)
  all_goals (try go_wp2_with fail)
  all_goals go_region_held3 (fun w' => w'.cell? ⟨w.heap.size, 0, none⟩ = some (.int .i64 2) ∧ w'.cell? ⟨w.heap.size, 1, none⟩ = some (.int .u64 0) ∧ w'.cell? ⟨w.heap.size, 2, none⟩ = some (.int .i64 b) ∧ w'.cell? ⟨w.heap.size + 1, 0, none⟩ = some (.int .i64 4) ∧ w'.cell? ⟨w.heap.size + 1, 1, none⟩ = some (.int .u64 n') ∧ w'.cell? ⟨w.heap.size + 1, 2, none⟩ = some (.int .i64 b'))
    (simp [go_sem, *])
    (first | fail)
  all_goals (try go_wp2_with ((go_at_call 73; refine (yes_any _ _).mono ?_; rintro e w1 ⟨rfl, h1⟩; obtain ⟨c1, f1⟩ := h1.cells)))
  all_goals go_light
  all_goals first | (refine bodyPost_ret (v := ?_) ?_ rfl ?_; rotate_left 1; focus (simp [results, Try.results67, go_sem, *]; (try rfl); done)) | go_returns
  all_goals exact ⟨ret_valok (by rfl), by (repeat' first | with_reducible exact Fresh.refl _ | with_reducible assumption | with_reducible refine Fresh.alloc ?_ _ _ | with_reducible refine Fresh.drew ?_ | with_reducible refine Fresh.setCell ?_ ?_ _ | with_reducible refine Fresh.trans ?_ (by assumption) | (simp; done) | (simp; omega))⟩
set_option maxRecDepth 100000 in
set_option maxHeartbeats 2000000 in
theorem rp_c6f17 (n b n' b' : Int) (h : (b' == 0) = false) (hn : (n == 0) = false) (w : World) :
    Calls Try.prog 67 #[.int .i64 17, .agg #[.int .i64 2, .int .u64 n, .int .i64 b], .agg #[.int .i64 4, .int .u64 n', .int .i64 b']] w fun e w' => e = .returned (.tuple #[.agg #[.int .i64 (noneL).1.1, .int .u64 (noneL).1.2.1, .int .i64 (noneL).1.2.2], .bool (noneL).2]) ∧ Fresh w w' := by
  go_enter Try.func67, Try.ntmps67
  go_wp2_with fail
  all_goals go_region_held3 (fun w' => w'.cell? ⟨w.heap.size, 0, none⟩ = some (.int .i64 2) ∧ w'.cell? ⟨w.heap.size, 1, none⟩ = some (.int .u64 n) ∧ w'.cell? ⟨w.heap.size, 2, none⟩ = some (.int .i64 b) ∧ w'.cell? ⟨w.heap.size + 1, 0, none⟩ = some (.int .i64 4) ∧ w'.cell? ⟨w.heap.size + 1, 1, none⟩ = some (.int .u64 n') ∧ w'.cell? ⟨w.heap.size + 1, 2, none⟩ = some (.int .i64 b'))
    (simp [go_sem, *])
    (first | fail)
  all_goals (try go_wp2_with fail)
  all_goals go_region_held3 (fun w' => w'.cell? ⟨w.heap.size, 0, none⟩ = some (.int .i64 2) ∧ w'.cell? ⟨w.heap.size, 1, none⟩ = some (.int .u64 n) ∧ w'.cell? ⟨w.heap.size, 2, none⟩ = some (.int .i64 b) ∧ w'.cell? ⟨w.heap.size + 1, 0, none⟩ = some (.int .i64 4) ∧ w'.cell? ⟨w.heap.size + 1, 1, none⟩ = some (.int .u64 n') ∧ w'.cell? ⟨w.heap.size + 1, 2, none⟩ = some (.int .i64 b'))
    (simp [go_sem, *])
    (first | fail)
  all_goals (try go_wp2_with fail)
  all_goals (try go_wp2_with ((go_at_call 73; refine (yes_any _ _).mono ?_; rintro e w1 ⟨rfl, h1⟩; obtain ⟨c1, f1⟩ := h1.cells)))
  all_goals go_light
  all_goals first | (refine bodyPost_ret (v := ?_) ?_ rfl ?_; rotate_left 1; focus (simp [results, Try.results67, go_sem, *]; (try rfl); done)) | go_returns
  all_goals exact ⟨ret_valok (by rfl), by (repeat' first | with_reducible exact Fresh.refl _ | with_reducible assumption | with_reducible refine Fresh.alloc ?_ _ _ | with_reducible refine Fresh.drew ?_ | with_reducible refine Fresh.setCell ?_ ?_ _ | with_reducible refine Fresh.trans ?_ (by assumption) | (simp; done) | (simp; omega))⟩
set_option maxRecDepth 100000 in
set_option maxHeartbeats 2000000 in
theorem rp_c6n (o n b n' b' : Int) (h : (b' == 0) = false) (h3 : (o == 3) = false) (h16 : (o == 16) = false) (h17 : (o == 17) = false) (w : World) :
    Calls Try.prog 67 #[.int .i64 o, .agg #[.int .i64 2, .int .u64 n, .int .i64 b], .agg #[.int .i64 4, .int .u64 n', .int .i64 b']] w fun e w' => e = .returned (.tuple #[.agg #[.int .i64 (noneL).1.1, .int .u64 (noneL).1.2.1, .int .i64 (noneL).1.2.2], .bool (noneL).2]) ∧ Fresh w w' := by
  go_enter Try.func67, Try.ntmps67
  go_wp2_with fail
  all_goals go_region_held3 (fun w' => w'.cell? ⟨w.heap.size, 0, none⟩ = some (.int .i64 2) ∧ w'.cell? ⟨w.heap.size, 1, none⟩ = some (.int .u64 n) ∧ w'.cell? ⟨w.heap.size, 2, none⟩ = some (.int .i64 b) ∧ w'.cell? ⟨w.heap.size + 1, 0, none⟩ = some (.int .i64 4) ∧ w'.cell? ⟨w.heap.size + 1, 1, none⟩ = some (.int .u64 n') ∧ w'.cell? ⟨w.heap.size + 1, 2, none⟩ = some (.int .i64 b'))
    (simp [go_sem, *])
    (first | fail)
  all_goals (try go_wp2_with fail)
  all_goals go_region_held3 (fun w' => w'.cell? ⟨w.heap.size, 0, none⟩ = some (.int .i64 2) ∧ w'.cell? ⟨w.heap.size, 1, none⟩ = some (.int .u64 n) ∧ w'.cell? ⟨w.heap.size, 2, none⟩ = some (.int .i64 b) ∧ w'.cell? ⟨w.heap.size + 1, 0, none⟩ = some (.int .i64 4) ∧ w'.cell? ⟨w.heap.size + 1, 1, none⟩ = some (.int .u64 n') ∧ w'.cell? ⟨w.heap.size + 1, 2, none⟩ = some (.int .i64 b'))
    (simp [go_sem, *])
    (first | fail)
  all_goals (try go_wp2_with fail)
  all_goals (try go_wp2_with ((go_at_call 73; refine (yes_any _ _).mono ?_; rintro e w1 ⟨rfl, h1⟩; obtain ⟨c1, f1⟩ := h1.cells)))
  all_goals go_light
  all_goals first | (refine bodyPost_ret (v := ?_) ?_ rfl ?_; rotate_left 1; focus (simp [results, Try.results67, go_sem, *]; (try rfl); done)) | go_returns
  all_goals exact ⟨ret_valok (by rfl), by (repeat' first | with_reducible exact Fresh.refl _ | with_reducible assumption | with_reducible refine Fresh.alloc ?_ _ _ | with_reducible refine Fresh.drew ?_ | with_reducible refine Fresh.setCell ?_ ?_ _ | with_reducible refine Fresh.trans ?_ (by assumption) | (simp; done) | (simp; omega))⟩
end Go.Proofs.Ytjbflmpnmobngaa.two
/- The document's own answer of two operands with a pointer among them is mach's. -/
namespace Go.Proofs.Ytjbflmpnmobngaa.two
set_option linter.unusedSimpArgs false
set_option linter.unusedVariables false
open Go.RowKit

theorem wrap_sub (x y : Int) : wrap64 (wrap64 x - wrap64 y) = wrap64 (IntKind.u64.wrap (x - y)) := by rw [IntKind.wrap_u64]; unfold wrap64; omega
theorem wrap_add (x y : Int) : wrap64 (wrap64 x + wrap64 y) = wrap64 (IntKind.u64.wrap (x + y)) := by rw [IntKind.wrap_u64]; unfold wrap64; omega
theorem wrap_add' (x y : Int) : wrap64 (wrap64 x + wrap64 y) = wrap64 (IntKind.u64.wrap (x + y)) := wrap_add x y
theorem beq64 {n n' : Int} (a : 0 ≤ n) (b : n < 18446744073709551616) (c : 0 ≤ n') (d : n' < 18446744073709551616) : (n == n') = (wrap64 n == wrap64 n') := by
  rw [Bool.eq_iff_iff]; simp only [beq_iff_eq]; unfold wrap64; omega
theorem le_of (x y : Int) : decide (x ≤ y) = (decide (x < y) || x == y) := by rw [Bool.eq_iff_iff]; simp; omega
theorem gt_of (x y : Int) : decide (y < x) = (!decide (x < y) && !(x == y)) := by rw [Bool.eq_iff_iff]; simp; omega
theorem ge_of (x y : Int) : decide (y ≤ x) = !decide (x < y) := by rw [Bool.eq_iff_iff]; simp
theorem compare_signed (o x y : Int) (h1 : 16 ≤ o) (h2 : o ≤ 21) : comparedL o (decide (x < y)) (x == y) = compareL o x y := by
  have h : o = 16 ∨ o = 17 ∨ o = 18 ∨ o = 19 ∨ o = 20 ∨ o = 21 := by omega
  rcases h with rfl | rfl | rfl | rfl | rfl | rfl
  · rfl
  · rfl
  · rfl
  · exact (le_of x y).symm
  · exact (gt_of x y).symm
  · exact (ge_of x y).symm
theorem compare_unsigned (o x y : Int) (h1 : 22 ≤ o) (h2 : o ≤ 25) : comparedL o (decide (x < y)) (x == y) = compareL (o - 22 + 18) x y := by
  have h : o = 22 ∨ o = 23 ∨ o = 24 ∨ o = 25 := by omega
  rcases h with rfl | rfl | rfl | rfl
  · rfl
  · exact (le_of x y).symm
  · exact (gt_of x y).symm
  · exact (ge_of x y).symm
theorem valok_mono {f : FuncId} {args : Array Value} {w : World} {p q : (Int × Int × Int) × Bool} (h : Calls Try.prog f args w fun e w' => e = .returned (.tuple #[.agg #[.int .i64 (p).1.1, .int .u64 (p).1.2.1, .int .i64 (p).1.2.2], .bool (p).2]) ∧ Fresh w w') (e : q = p) :
    Calls Try.prog f args w fun e w' => e = .returned (.tuple #[.agg #[.int .i64 (q).1.1, .int .u64 (q).1.2.1, .int .i64 (q).1.2.2], .bool (q).2]) ∧ Fresh w w' := by rw [e]; exact h

theorem rpointers_any (o k n b k' n' b' : Int) (h1 : 1 ≤ o) (h2 : o ≤ 25) (hk : k = 4 ∨ k' = 4) (hn : 0 ≤ n) (hN : n < 18446744073709551616) (hn' : 0 ≤ n') (hN' : n' < 18446744073709551616) (w : World) :
    Calls Try.prog 67 #[.int .i64 o, .agg #[.int .i64 k, .int .u64 n, .int .i64 b], .agg #[.int .i64 k', .int .u64 n', .int .i64 b']] w fun e w' => e = .returned (.tuple #[.agg #[.int .i64 (pointersL (o + 30) k n b k' n' b').1.1, .int .u64 (pointersL (o + 30) k n b k' n' b').1.2.1, .int .i64 (pointersL (o + 30) k n b k' n' b').1.2.2], .bool (pointersL (o + 30) k n b k' n' b').2]) ∧ Fresh w w' := by
  have q34 : o ≠ 4 → ((o + 30 == 34) = false) := fun h => by simp; omega
  have q33 : o ≠ 3 → ((o + 30 == 33) = false) := fun h => by simp; omega
  have q46 : o ≠ 16 → ((o + 30 == 46) = false) := fun h => by simp; omega
  have q47 : o ≠ 17 → ((o + 30 == 47) = false) := fun h => by simp; omega
  have bf : ∀ {x c : Int}, x ≠ c → (x == c) = false := fun h => by simpa using h
  have bt : ∀ {x c : Int}, x ≠ c → (x != c) = true := fun h => by simpa using h
  by_cases hk4 : k = 4
  · subst hk4
    by_cases hb : b = 0
    · subst hb; exact valok_mono (rp_c1 o n k' n' b' w) (by simp [pointersL, nowhereL])
    by_cases hk4' : k' = 4
    · subst hk4'
      by_cases hb' : b' = 0
      · subst hb'; exact valok_mono (rp_c2a o n b n' (bf hb) w) (by simp [pointersL, nowhereL])
      by_cases hbb : b = b'
      · subst hbb
        by_cases ho : o = 4
        · subst ho
          exact valok_mono (rp_c4s n n' b (bf hb) w) (by simp [pointersL, nowhereL, hb, twoL, wrap_sub])
        by_cases hu : 22 ≤ o
        · refine valok_mono (p := ((1, flagL (comparedL o (decide (n < n')) (n == n')), 0), true)) (rp_c4u o n n' b (bf hb) hu h2 (bf ho) w) ?_
          have e : whole64 (o + 30 - 30) n n' = (flagL (compareL (o - 22 + 18) n n'), true) := by
            rw [show o + 30 - 30 = o by omega]; unfold whole64; rw [if_pos hu]
          simp only [pointersL, nowhereL, twoL, q34 ho, e, compare_unsigned o n n' hu h2]
          rw [if_neg (by simp [hb]), if_pos (by simp), if_neg (by simp), if_neg (by simp), if_pos (by omega)]
          rfl
        by_cases hc : 16 ≤ o
        · refine valok_mono (p := ((1, flagL (comparedL o (decide (wrap64 n < wrap64 n')) (n == n')), 0), true)) (rp_c4c o n n' b (bf hb) hc (by omega) (bf ho) w) ?_
          have e : whole64 (o + 30 - 30) n n' = (flagL (compareL o (wrap64 n) (wrap64 n')), true) := by
            rw [show o + 30 - 30 = o by omega]; unfold whole64; rw [if_neg hu, if_pos hc]
          simp only [pointersL, nowhereL, twoL, q34 ho, e, beq64 hn hN hn' hN', compare_signed o _ _ hc (show o ≤ 21 by omega)]
          rw [if_neg (by simp [hb]), if_pos (by simp), if_neg (by simp), if_neg (by simp), if_pos (by omega)]
          rfl
        · refine valok_mono (rp_c4n o n n' b (bf hb) (by omega) (bf ho) w) ?_
          simp only [pointersL, nowhereL, twoL, q34 ho]
          rw [if_neg (by simp [hb]), if_pos (by simp), if_neg (by simp), if_neg (by simp), if_neg (by omega)]
      · refine valok_mono (rp_c3 o n b n' b' (bf hb) (bf hb') (bt hbb) w) ?_
        simp [pointersL, nowhereL, hb, hb', twoL, hbb]
    by_cases hk2 : k' = 2
    · subst hk2
      by_cases o3 : o = 3
      · subst o3; exact valok_mono (rp_c5a n b n' b' (bf hb) w) (by simp [pointersL, nowhereL, hb, palL, wrap_add])
      by_cases o4 : o = 4
      · subst o4; exact valok_mono (rp_c5s n b n' b' (bf hb) w) (by simp [pointersL, nowhereL, hb, palL, wrap_sub])
      by_cases o16 : o = 16
      · subst o16
        by_cases hz : n' = 0
        · subst hz; exact valok_mono (p := ((1, 0, 0), true)) (rp_c5e16 n b b' (bf hb) w) (by simp [pointersL, nowhereL, hb, palL, intL])
        · exact valok_mono (rp_c5f16 n b n' b' (bf hb) (bf hz) w) (by simp [pointersL, nowhereL, hb, palL, hz, noneL])
      by_cases o17 : o = 17
      · subst o17
        by_cases hz : n' = 0
        · subst hz; exact valok_mono (p := ((1, 1, 0), true)) (rp_c5e17 n b b' (bf hb) w) (by simp [pointersL, nowhereL, hb, palL, intL])
        · exact valok_mono (rp_c5f17 n b n' b' (bf hb) (bf hz) w) (by simp [pointersL, nowhereL, hb, palL, hz, noneL])
      exact valok_mono (rp_c5n o n b n' b' (bf hb) (bf o3) (bf o4) (bf o16) (bf o17) w) (by simp [pointersL, nowhereL, hb, palL, noneL, q33 o3, q34 o4, q46 o16, q47 o17, bf o3, bf o4])
    · exact valok_mono (rp_c5k o n b k' n' b' (bf hb) (bf hk4') (bt hk2) w) (by simp [pointersL, nowhereL, hb, hk4', hk2])
  · have hk4' : k' = 4 := by omega
    subst hk4'
    by_cases hb : b' = 0
    · subst hb; exact valok_mono (rp_c2b o k n b n' (bf hk4) w) (by simp [pointersL, nowhereL])
    by_cases hk2 : k = 2
    · subst hk2
      by_cases o3 : o = 3
      · subst o3; exact valok_mono (rp_c6a n b n' b' (bf hb) w) (by simp [pointersL, nowhereL, hb, palL, wrap_add])
      by_cases o16 : o = 16
      · subst o16
        by_cases hz : n = 0
        · subst hz; exact valok_mono (p := ((1, 0, 0), true)) (rp_c6e16 b n' b' (bf hb) w) (by simp [pointersL, nowhereL, hb, palL, intL])
        · exact valok_mono (rp_c6f16 n b n' b' (bf hb) (bf hz) w) (by simp [pointersL, nowhereL, hb, palL, hz, noneL])
      by_cases o17 : o = 17
      · subst o17
        by_cases hz : n = 0
        · subst hz; exact valok_mono (p := ((1, 1, 0), true)) (rp_c6e17 b n' b' (bf hb) w) (by simp [pointersL, nowhereL, hb, palL, intL])
        · exact valok_mono (rp_c6f17 n b n' b' (bf hb) (bf hz) w) (by simp [pointersL, nowhereL, hb, palL, hz, noneL])
      by_cases o4 : o = 4
      · subst o4; exact valok_mono (rp_c6n 4 n b n' b' (bf hb) (by decide) (by decide) (by decide) w) (by simp [pointersL, nowhereL, hb])
      exact valok_mono (rp_c6n o n b n' b' (bf hb) (bf o3) (bf o16) (bf o17) w) (by simp [pointersL, nowhereL, hb, palL, noneL, q33 o3, q34 o4, q46 o16, q47 o17])
    · exact valok_mono (rp_c6k o k n b n' b' (bf hb) (bf hk4) (bt hk2) w) (by simp [pointersL, nowhereL, hb, hk4, hk2])
end Go.Proofs.Ytjbflmpnmobngaa.two
