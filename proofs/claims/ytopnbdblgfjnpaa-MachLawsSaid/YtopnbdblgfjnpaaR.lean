/- What the small calls of the document's own answers give. -/
import Derived.Test.YtopnbdblgfjnpaaF
namespace Go.Proofs.Ytopnbdblgfjnpaa
set_option linter.unusedSimpArgs false
set_option linter.unusedVariables false
open Go.RowKit
attribute [local go_sem ↓] run_f64bits run_f64from

theorem rInt_any (n : Int) (w : World) :
    Calls Try.prog 29 #[.int .i32 n] w fun e w' => e = .returned (.agg #[.int .i64 (intL n).1, .int .u64 (intL n).2.1, .int .i64 (intL n).2.2]) ∧ Fresh w w' := by
  go_enter Try.func29, Try.ntmps29
  go_wp2
  go_returns
  exact ⟨ret_val rfl, (Fresh.refl _).alloc _ _⟩
theorem rLong_any (n : Int) (w : World) :
    Calls Try.prog 27 #[.int .i64 n] w fun e w' => e = .returned (.agg #[.int .i64 (longL n).1, .int .u64 (longL n).2.1, .int .i64 (longL n).2.2]) ∧ Fresh w w' := by
  go_enter Try.func27, Try.ntmps27
  go_wp2
  go_returns
  exact ⟨ret_val rfl, (Fresh.refl _).alloc _ _⟩
theorem rPtr_any (b o : Int) (w : World) :
    Calls Try.prog 31 #[.int .i64 b, .int .i64 o] w fun e w' => e = .returned (.agg #[.int .i64 (ptrL b o).1, .int .u64 (ptrL b o).2.1, .int .i64 (ptrL b o).2.2]) ∧ Fresh w w' := by
  go_enter Try.func31, Try.ntmps31
  go_wp2
  all_goals (go_returns; go_light)
  all_goals exact ⟨ret_val (by simp [ptrL, *]), (Fresh.refl _).alloc _ _⟩
theorem rdbl_any (k n b : Int) (w : World) :
    Calls Try.prog 38 #[.agg #[.int .i64 k, .int .u64 n, .int .i64 b]] w fun e w' => e = .returned (.float .f64 n.toNat) ∧ w.alloc (.cells #[.int .i64 k, .int .u64 n, .int .i64 b] 24) = w' := by
  go_enter Try.func38, Try.ntmps38
  go_wp2
  all_goals (go_returns; exact ⟨rfl, rfl⟩)
theorem ri64_any (k n b : Int) (w : World) :
    Calls Try.prog 39 #[.agg #[.int .i64 k, .int .u64 n, .int .i64 b]] w fun e w' => e = .returned (.int .i64 (wrap64 n)) ∧ w.alloc (.cells #[.int .i64 k, .int .u64 n, .int .i64 b] 24) = w' := by
  go_enter Try.func39, Try.ntmps39
  go_wp2
  all_goals (go_returns; exact ⟨rfl, rfl⟩)
theorem ri32_any (k n b : Int) (w : World) :
    Calls Try.prog 40 #[.agg #[.int .i64 k, .int .u64 n, .int .i64 b]] w fun e w' => e = .returned (.int .i32 (wrap32 (n % 4294967296))) ∧ w.alloc (.cells #[.int .i64 k, .int .u64 n, .int .i64 b] 24) = w' := by
  go_enter Try.func40, Try.ntmps40
  go_wp2
  all_goals (go_returns; exact ⟨rfl, rfl⟩)
theorem ru32_any (k n b : Int) (w : World) :
    Calls Try.prog 41 #[.agg #[.int .i64 k, .int .u64 n, .int .i64 b]] w fun e w' => e = .returned (.int .u32 (n % 4294967296)) ∧ w.alloc (.cells #[.int .i64 k, .int .u64 n, .int .i64 b] 24) = w' := by
  go_enter Try.func41, Try.ntmps41
  go_wp2
  all_goals (go_returns; exact ⟨rfl, rfl⟩)
def comparedL (o : Int) (l s : Bool) : Bool :=
  if o == 16 then s else if o == 17 then !s else if o == 18 || o == 22 then l else if o == 19 || o == 23 then l || s else if o == 20 || o == 24 then !l && !s else !l
theorem compared_any (o : Int) (l s : Bool) (w : World) :
    Calls Try.prog 43 #[.int .i64 o, .bool l, .bool s] w fun e w' => e = .returned (.bool (comparedL o l s)) ∧ w = w' := by
  go_enter Try.func43, Try.ntmps43
  go_wp2
  all_goals (go_returns; go_light)
  all_goals exact ⟨ret_bool (by simp [comparedL, *]), rfl⟩
theorem yes_any (c : Bool) (w : World) :
    Calls Try.prog 42 #[.bool c] w fun e w' => e = .returned (.agg #[.int .i64 1, .int .u64 (flagL c), .int .i64 0]) ∧ Fresh w w' := by
  cases c <;>
  · go_enter Try.func42, Try.ntmps42
    go_wp2
    all_goals (go_returns; exact ⟨rfl, ((Fresh.refl _).alloc _ _).alloc _ _⟩)
theorem rDbl_any (x : Nat) (w : World) :
    Calls Try.prog 48 #[.float .f64 x] w fun e w' => e = .returned (.agg #[.int .i64 3, .int .u64 (dblBitsL x), .int .i64 0]) ∧ Fresh w w' := by
  go_enter Try.func48, Try.ntmps48
  go_wp2
  all_goals (go_returns; go_light)
  all_goals exact ⟨by simp [dblBitsL, nanL, *], (Fresh.refl _).alloc _ _⟩
end Go.Proofs.Ytopnbdblgfjnpaa
